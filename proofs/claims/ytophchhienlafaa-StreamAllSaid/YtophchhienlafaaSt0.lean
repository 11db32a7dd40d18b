/-
  The landed stream: what it holds, New, Held, Broken, Take of one that is broken.
-/
import Derived.Test.YtophchhienlafaaOwn
import Derived.Test.YtophchhienlafaaStmM
import Derived.Test.YtophchhienlafaaRead
import Derived.Test.YtophchhienlafaaGrow
namespace Go.Proofs.Ytophchhienlafaa
open Go.RowKit

/-- Frames behind A, all of them in blocks of F. -/
def FrsOf (F : Nat → Prop) (w : World) (A : Option Addr) (n c : Nat) (l : List Fr) : Prop :=
  l.length = n ∧ n ≤ c ∧ c ≤ maxLen ∧ (∀ b o s, A = some ⟨b, o, s⟩ → 0 < n → F b) ∧ ∃ vs, CellsAt w A vs ∧ FrsIn F w vs l
theorem FrsOf.at_ {F : Nat → Prop} {w : World} {A : Option Addr} {n c : Nat} {l : List Fr} (h : FrsOf F w A n c l) : FrsBy F w A l := by
  obtain ⟨_, _, _, _, vs, h1, h2⟩ := h
  exact ⟨vs, h1, h2⟩
theorem FrsOf.move {F G : Nat → Prop} {w w' : World} {A : Option Addr} {n c : Nat} {l : List Fr} (h : FrsOf F w A n c l) (hF : ∀ b, F b → b < w.heap.size → w'.heap[b]? = w.heap[b]? ∧ G b) : FrsOf G w' A n c l := by
  obtain ⟨h1, h2, h3, h4, vs, h5, h6⟩ := h
  have hvs := h6.length
  have hlt : ∀ b o s, A = some ⟨b, o, s⟩ → 0 < n → b < w.heap.size := by
    intro b o s e h0
    obtain ⟨b', o', e', hc⟩ := h5 0 (by omega)
    rw [e] at e'
    cases e'
    exact World.block_lt_of_cell? w _ hc
  refine ⟨h1, h2, h3, fun b o s e h0 => (hF b (h4 b o s e h0) (hlt b o s e h0)).2, vs, ?_, h6.move hF⟩
  intro j hj
  obtain ⟨b, off, e, hc⟩ := h5 j hj
  have h0 : 0 < n := by omega
  exact ⟨b, off, e, (World.cell?_of_block (w := w) (a := ⟨b, off + j, none⟩) (hF b (h4 b off none e h0) (hlt b off none e h0)).1).trans hc⟩
theorem FrsOf.below {F : Nat → Prop} {w w' : World} {A : Option Addr} {n c : Nat} {l : List Fr} (h : FrsOf F w A n c l) (hb : Below w.heap.size w w') : FrsOf F w' A n c l := h.move fun b hf hl => ⟨hb.block b hl, hf⟩
theorem FrsOf.but {F : Nat → Prop} {S : List Nat} {w w' : World} {A : Option Addr} {n c : Nat} {l : List Fr} (h : FrsOf F w A n c l) (hb : But S w w') (hS : ∀ b, F b → b ∉ S) : FrsOf F w' A n c l := h.move fun b hf hl => ⟨hb.block b hl (hS b hf), hf⟩
theorem FrsOf.lt {F : Nat → Prop} {w : World} {A : Option Addr} {n c : Nat} {l : List Fr} (h : FrsOf F w A n c l) : FrsOf (fun b => F b ∧ b < w.heap.size) w A n c l := h.move fun _ hf hl => ⟨rfl, hf, hl⟩

/-- The landed stream's row at g: the bytes r behind a slice, in a block of S that is not g; is it broken? -/
def StRow (w : World) (g : Nat) (r : List UInt8) (bad : Bool) (F : Nat → Prop) : Prop :=
  ∃ A n c, w.heap[g]? = some (.cells #[.slice A n c, .bool bad] 52 (0, 0)) ∧ r.length = n ∧ n ≤ c ∧ c ≤ maxLen ∧ Lies u8v w A r ∧ ∀ b o s, A = some ⟨b, o, s⟩ → 0 < n → F b
/-- The landed stream at the block g: it holds b; is it broken? Its own blocks are S. -/
structure StAt (w : World) (g : Nat) (b : List UInt8) (bad : Bool) (S : List Nat) : Prop where
  mem : g ∈ S
  all : ∀ k ∈ S, k < w.heap.size
  row : StRow w g b bad (fun k => k ∈ S)
theorem StRow.move {F G : Nat → Prop} {w w' : World} {g : Nat} {b : List UInt8} {bad : Bool} (h : StRow w g b bad F) (hg : w'.heap[g]? = w.heap[g]?) (hF : ∀ b, F b → b < w.heap.size → w'.heap[b]? = w.heap[b]? ∧ G b) : StRow w' g b bad G := by
  obtain ⟨A, n, c, h1, h2, h3, h4, h5, h6⟩ := h
  have hlt : ∀ b' o s, A = some ⟨b', o, s⟩ → 0 < n → b' < w.heap.size := by
    intro b' o s e h0
    obtain ⟨_, _, e', hc⟩ := h5 0 (by omega)
    rw [e] at e'
    cases e'
    exact World.block_lt_of_cell? w _ hc
  refine ⟨A, n, c, hg.trans h1, h2, h3, h4, ?_, fun b' o s e h0 => (hF b' (h6 b' o s e h0) (hlt b' o s e h0)).2⟩
  intro j hj
  obtain ⟨b', off, e, hc⟩ := h5 j hj
  have h0 : 0 < n := by omega
  exact ⟨b', off, e, (World.cell?_of_block (w := w) (a := ⟨b', off + j, none⟩) (hF b' (h6 b' off none e h0) (hlt b' off none e h0)).1).trans hc⟩
theorem StAt.but {w w' : World} {g : Nat} {b : List UInt8} {bad : Bool} {S T : List Nat} (h : StAt w g b bad S) (hb : But T w w') (hn : ∀ k ∈ S, k ∉ T) : StAt w' g b bad S :=
  ⟨h.mem, fun k hk => Nat.lt_of_lt_of_le (h.all k hk) hb.size, h.row.move (hb.block g (h.all g h.mem) (hn g h.mem)) fun k hk _ => ⟨hb.block k (h.all k hk) (hn k hk), hk⟩⟩
theorem StAt.own {w : World} {g : Nat} {b : List UInt8} {bad : Bool} {S : List Nat} (h : StAt w g b bad S) : ∀ k ∈ S, k < w.heap.size := h.all
theorem StAt.below {w w' : World} {g : Nat} {b : List UInt8} {bad : Bool} {S : List Nat} (h : StAt w g b bad S) (hb : Below w.heap.size w w') : StAt w' g b bad S := h.but (But.of_below hb (Nat.le_refl _) []) (by simp)

theorem StAt.over {w w' : World} {g B : Nat} {b : List UInt8} {bad : Bool} {S : List Nat} (h : StAt w g b bad S) (hS : ∀ k ∈ S, k < B) (hb : Below B w w') : StAt w' g b bad S :=
  h.but (But.of_low hb) fun k hk hm => by
    have := hS k hk
    have := (List.mem_filter.1 hm).2
    simp at this
    omega

theorem StAt.drewN {w : World} {g : Nat} {b : List UInt8} {bad : Bool} {S : List Nat} (h : StAt w g b bad S) (n : Nat) : StAt (w.drewN n) g b bad S := h.below (drewN_below (Below.refl _ _) n)

def NewPost (w : World) (e : Ending) (w' : World) : Prop :=
  ∃ g S, e = .returned (.pointer (some ⟨g, 0, none⟩)) ∧ StAt w' g [] false S ∧ (∀ k ∈ S, w.heap.size ≤ k) ∧ Below w.heap.size w w'
set_option maxRecDepth 100000 in
set_option maxHeartbeats 1000000 in
theorem new5_any (w : World) : Calls Try.prog 7 #[] w (NewPost w) := by
  go_enter Try.func7, Try.ntmps7
  go_wp2
  go_ret
  have hz : (w.alloc (.cells #[.slice none 0 0, .bool false] 52)).heap.size = w.heap.size + 1 := by simp
  refine ⟨w.heap.size, [w.heap.size], rfl, ⟨by simp, ?_, none, 0, 0, heap_alloc_new w _, rfl, Nat.le_refl _, Nat.zero_le _, Lies.nil _ _, by rintro _ _ _ h; cases h⟩, by simp, (Below.refl _ w).alloc (Nat.le_refl _) _⟩
  intro k hk
  have : k = w.heap.size := by simpa using hk
  omega
#print axioms new5_any
/-- What Take leaves of a stream at g, of blocks S, that holds b, and is handed c. -/
def TakePost (w : World) (g : Nat) (S : List Nat) (b c : List UInt8) (e : Ending) (w' : World) : Prop :=
  ∃ A n k S', e = .returned (.tuple #[.slice A n k, .int .i64 (if (Stm.cut (b ++ c)).2.2 then 2 else 0)]) ∧ FrsOf (fun b => w.heap.size ≤ b ∧ b ∉ S') w' A n k (Stm.cut (b ++ c)).1 ∧ StAt w' g (Stm.cut (b ++ c)).2.1 (Stm.cut (b ++ c)).2.2 S' ∧ (∀ k ∈ S', k ∈ S ∨ w.heap.size ≤ k) ∧ But S w w'
set_option maxRecDepth 100000 in
set_option maxHeartbeats 1000000 in
theorem take5_bad (g : Nat) (S : List Nat) (A : Option Addr) (n k : Nat) (b : List UInt8) (w : World) (hs : StAt w g b true S) :
    Calls Try.prog 8 #[.pointer (some ⟨g, 0, none⟩), .slice A n k] w fun e w' => e = .returned (.tuple #[.slice Option.none 0 0, .int .i64 8]) ∧ Below w.heap.size w w' := by
  obtain ⟨_, _, A', n', c, h1, h2, _⟩ := hs
  obtain ⟨hr0, hr1⟩ := row_two' h1
  have hlt := row_lt h1
  clear h1 h2
  go_enter Try.func8, Try.ntmps8
  go_wp2
  go_ret2
  exact ⟨rfl, Below.refl _ _⟩
#print axioms take5_bad
set_option maxRecDepth 100000 in
set_option maxHeartbeats 1000000 in
theorem held5_any (g : Nat) (S : List Nat) (b : List UInt8) (bad : Bool) (w : World) (hs : StAt w g b bad S) :
    Calls Try.prog 12 #[.pointer (some ⟨g, 0, none⟩)] w fun e w' => e = .returned (.int .i64 (b.length : Int)) ∧ w' = w := by
  obtain ⟨_, _, A, n, c, h1, h2, _⟩ := hs
  obtain ⟨hr0, hr1⟩ := row_two' h1
  have hlt := row_lt h1
  clear h1
  rw [h2]
  clear h2
  go_enter Try.func12, Try.ntmps12
  go_wp2
  go_ret
  exact ⟨rfl, rfl⟩
#print axioms held5_any
set_option maxRecDepth 100000 in
set_option maxHeartbeats 1000000 in
theorem broken5_any (g : Nat) (S : List Nat) (b : List UInt8) (bad : Bool) (w : World) (hs : StAt w g b bad S) :
    Calls Try.prog 13 #[.pointer (some ⟨g, 0, none⟩)] w fun e w' => e = .returned (.bool bad) ∧ w' = w := by
  obtain ⟨_, _, A, n, c, h1, h2, _⟩ := hs
  obtain ⟨hr0, hr1⟩ := row_two' h1
  have hlt := row_lt h1
  clear h1 h2
  go_enter Try.func13, Try.ntmps13
  go_wp2
  go_ret
  exact ⟨rfl, rfl⟩
#print axioms broken5_any
end Go.Proofs.Ytophchhienlafaa
