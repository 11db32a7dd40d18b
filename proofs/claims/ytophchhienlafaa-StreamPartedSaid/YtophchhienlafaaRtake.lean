/-
  The document's own stream: Take, walked.
-/
import Derived.Test.YtophchhienlafaaFr
import Derived.Test.YtophchhienlafaaBut
import Derived.Test.YtophchhienlafaaRread
namespace Go.Proofs.Ytophchhienlafaa
open Go.RowKit

/-- The document's stream at the block g: it holds b; is it broken? -/
def RS (F : Nat → Prop) (w : World) (g : Nat) (b : List UInt8) (bad : Bool) : Prop :=
  ∃ A n c, w.heap[g]? = some (.cells #[.slice A n c, .bool bad] 29 (0, 0)) ∧ b.length = n ∧ n ≤ c ∧ c ≤ maxLen ∧ Lies u8v w A b ∧ ∀ b' o s, A = some ⟨b', o, s⟩ → 0 < n → F b'
theorem row_two' {w : World} {g : Nat} {a b : Value} {t : TypeId} (h : w.heap[g]? = some (.cells #[a, b] t (0, 0))) :
    w.cell? ⟨g, 0, none⟩ = some a ∧ w.cell? ⟨g, 1, none⟩ = some b := ⟨(row_two h).1, (row_two h).2.1⟩
theorem far_two {w : World} {g n c : Nat} {A : Option Addr} {x : Bool} {t : TypeId} {B : Option Addr} {l : List UInt8} (hg : w.heap[g]? = some (.cells #[.slice A n c, .bool x] t (0, 0))) (h : Lies u8v w B l) : ∀ b o s, B = some ⟨b, o, s⟩ → 0 < l.length → b ∉ [g] :=
  far_row hg h fun x i v hv => by
    rcases i with _ | _ | i
    · simp at hv; subst hv; intro e; cases e
    · simp at hv; subst hv; intro e; cases e
    · simp at hv
theorem RS.move {F G : Nat → Prop} {w w' : World} {g : Nat} {b : List UInt8} {bad : Bool} (h : RS F w g b bad) (hg : w'.heap[g]? = w.heap[g]?) (hF : ∀ b, F b → b < w.heap.size → w'.heap[b]? = w.heap[b]? ∧ G b) : RS G w' g b bad := by
  obtain ⟨A, n, c, h1, h2, h3, h4, h5, h6⟩ := h
  have hlt : ∀ b' o s, A = some ⟨b', o, s⟩ → 0 < n → b' < w.heap.size := by
    intro b' o s e h0
    obtain ⟨_, _, e', hc⟩ := h5 0 (by omega)
    rw [e] at e'
    cases e'
    exact World.block_lt_of_cell? w _ hc
  refine ⟨A, n, c, hg.trans h1, h2, h3, h4, ?_, fun b' o s e h0 => (hF b' (h6 b' o s e h0) (hlt b' o s e h0)).2⟩
  intro j hj
  obtain ⟨b', off, e, hc⟩ := h5 j hj
  have h0 : 0 < n := by omega
  exact ⟨b', off, e, (World.cell?_of_block (w := w) (a := ⟨b', off + j, none⟩) (hF b' (h6 b' off none e h0) (hlt b' off none e h0)).1).trans hc⟩
theorem RS.row {F : Nat → Prop} {w : World} {g : Nat} {b : List UInt8} {bad : Bool} (h : RS F w g b bad) : g < w.heap.size := by
  obtain ⟨A, n, c, h1, _⟩ := h
  exact row_lt h1
theorem RS.below {F : Nat → Prop} {w w' : World} {g : Nat} {b : List UInt8} {bad : Bool} (h : RS F w g b bad) (hb : Below w.heap.size w w') : RS F w' g b bad := h.move (hb.block g h.row) fun b hf hl => ⟨hb.block b hl, hf⟩
theorem RS.but {F : Nat → Prop} {S : List Nat} {w w' : World} {g : Nat} {b : List UInt8} {bad : Bool} (h : RS F w g b bad) (hb : But S w w') (hg : g ∉ S) (hS : ∀ b, F b → b ∉ S) : RS F w' g b bad := h.move (hb.block g h.row hg) fun b hf hl => ⟨hb.block b hl (hS b hf), hf⟩

theorem kitF : EKn Try.prog 34 55 (.agg #[.int .u16 0, .int .u8 0, .slice none 0 0]) 3 32 := ⟨Try.underlying34, by kernel_rfl, rfl, by omega⟩

/-- What Take leaves of a stream at g that holds b, and is handed c. -/
def RTakePost (w : World) (g : Nat) (b c : List UInt8) (e : Ending) (w' : World) : Prop :=
  ∃ A n k, e = .returned (.tuple #[.slice A n k, .int .i64 (if (Stm.cut (b ++ c)).2.2 then 2 else 0)]) ∧ (Stm.cut (b ++ c)).1.length = n ∧ n ≤ k ∧ k ≤ maxLen ∧ FrsAt w' A (Stm.cut (b ++ c)).1 ∧ RS (fun b => w.heap.size ≤ b) w' g (Stm.cut (b ++ c)).2.1 (Stm.cut (b ++ c)).2.2 ∧ But [g] w w'

set_option maxRecDepth 100000 in
set_option maxHeartbeats 1000000 in
theorem rtake5_bad {F : Nat → Prop} (g : Nat) (A : Option Addr) (n k : Nat) (b : List UInt8) (w : World) (hs : RS F w g b true) :
    Calls Try.prog 9 #[.pointer (some ⟨g, 0, none⟩), .slice A n k] w fun e w' => e = .returned (.tuple #[.slice Option.none 0 0, .int .i64 8]) ∧ w' = w := by
  obtain ⟨A0, n0, c0, hrow, _⟩ := hs
  obtain ⟨hr0, hr1⟩ := row_two' hrow
  have hlt := row_lt hrow
  clear hrow
  go_enter Try.func9, Try.ntmps9
  go_wp2
  go_ret2
  exact ⟨rfl, rfl⟩

theorem RTakePost.mk {F : Nat → Prop} {w w' : World} {g : Nat} {b c : List UInt8} {fs : List Fr} {r : List UInt8} {bad : Bool} {A : Option Addr} {n k : Nat} {vs : List Value} (hcut : Stm.cut (b ++ c) = (fs, r, bad)) (hn : fs.length = n) (hk : n ≤ k) (hm : k ≤ maxLen) (hc : CellsAt w' A vs) (hf : FrsIn F w' vs fs) (hr : RS (fun b => w.heap.size ≤ b) w' g r bad) (hb : But [g] w w') :
    RTakePost w g b c (.returned (.tuple #[.slice A n k, .int .i64 (if bad then 2 else 0)])) w' := by
  refine ⟨A, n, k, ?_, ?_, hk, hm, ?_, ?_, hb⟩
  · rw [hcut]
  · rw [hcut]; exact hn
  · rw [hcut]; exact ⟨vs, hc, hf.move fun _ _ _ => ⟨rfl, trivial⟩⟩
  · rw [hcut]; exact hr

/-- The blocks that are not the row's. -/
def offRow (A : Option Addr) (b : Nat) : Prop := ∀ g o s, A = some ⟨g, o, s⟩ → b ≠ g
/-- What stands at the head of Take's loop: the frames told so far, the bytes that are left. -/
def TakeInv (w : World) (g N : Nat) (b : List UInt8) (o : Value) (wr : World) : Prop :=
  ∃ (Ao : Option Addr) (no co : Nat) (vs : List Value) (fs : List Fr) (r : List UInt8) (A1 : Option Addr) (n1 c1 : Nat), o = .slice Ao no co ∧ fs.length = no ∧ wr.ownsRow w.heap.size 55 3 (.slice Ao no co) no vs ∧ FrsIn (offRow Ao) wr vs fs ∧ (wr.heap[g]? = some (.cells #[.slice A1 n1 c1, .bool false] 29 (0, 0)) ∧ r.length = n1 ∧ n1 ≤ c1 ∧ c1 ≤ maxLen ∧ Lies u8v wr A1 r ∧ ∀ b o s, A1 = some ⟨b, o, s⟩ → 0 < n1 → offRow Ao b ∧ w.heap.size ≤ b) ∧ no + r.length ≤ N ∧ Stm.cut b = (fs ++ (Stm.cut r).1, (Stm.cut r).2) ∧ But [g] w wr
theorem FrsIn.but {F : Nat → Prop} {w w' : World} {g n c : Nat} {A : Option Addr} {x : Bool} {t : TypeId} {vs : List Value} {fs : List Fr} (h : FrsIn F w vs fs) (hg : w.heap[g]? = some (.cells #[.slice A n c, .bool x] t (0, 0))) (hb : But [g] w w') : FrsIn F w' vs fs :=
  h.keep fun _ _ k => ⟨k.1, k.2.1, k.2.2.1, k.2.2.2.1.but hb (far_two hg k.2.2.2.1), k.2.2.2.2⟩
theorem two_back {w : World} {g : Nat} {a b : Value} {t : TypeId} (h : w.heap[g]? = some (.cells #[a, b] t (0, 0))) (x y : Value) :
    ((w.setCell ⟨g, 1, none⟩ y).setCell ⟨g, 0, none⟩ x).heap[g]? = some (.cells #[x, y] t (0, 0)) := by
  simp [World.setCell, Array.getElem?_modify, h]
theorem one_stored {w : World} {g : Nat} {a b : Value} {t : TypeId} (h : w.heap[g]? = some (.cells #[a, b] t (0, 0))) (x : Value) :
    (w.setCell ⟨g, 0, none⟩ x).heap[g]? = some (.cells #[x, b] t (0, 0)) := by
  simp [World.setCell, Array.getElem?_modify, h]
theorem row_made {w : World} {g : Nat} {o : Obj} (h : w.heap[g]? = some o) (O : Obj) : (w.alloc O).heap[g]? = some o := row_later h ((Below.refl _ _).alloc (Nat.le_refl _) O)
def heldN (g : Nat) (wr : World) : Nat := match wr.cell? ⟨g, 0, none⟩ with | some (.slice _ m _) => m | _ => 0
theorem own_not {w : World} {B e k n c g : Nat} {A : Option Addr} {vs : List Value} (h : w.ownsRow B e k (.slice A n c) n vs) (hg : g < B) : ∀ b o s, A = some ⟨b, o, s⟩ → 0 < vs.length → b ∉ [g] := by
  rintro b o s rfl _ hm
  have : b = g := by simpa using hm
  have := (h.lt b rfl).1
  omega

set_option maxRecDepth 100000 in
set_option maxHeartbeats 1000000 in
theorem rtake5_any {F : Nat → Prop} (g : Nat) (A : Option Addr) (n k : Nat) (b c : List UInt8) (hn : c.length = n) (hm : b.length + n ≤ 60000) (w : World) (hs : RS F w g b false) (hc : Lies u8v w A c) :
    Calls Try.prog 9 #[.pointer (some ⟨g, 0, none⟩), .slice A n k] w (RTakePost w g b c) := by
  obtain ⟨A0, n0, c0, hrow, hn0, hc0, hm0, hl0, _⟩ := hs
  obtain ⟨hr0, hr1, hz0, hz1⟩ := row_two hrow
  have hlt := row_lt hrow
  have hnn : n0 + n ≤ 60000 := by omega
  have HN := Lib.hid hn
  have HN0 := Lib.hid hn0
  clear hn hn0
  go_enter Try.func9, Try.ntmps9
  go_wp2_with (first
    | (at_builtin; (refine wpList_append_lies kit8 one8 _ rfl (.tmp 15) (.tmp 19) rfl w.heap.size _ 0 [] rfl (own_lit u8v w #[] _ _ _ 0 [] rfl rfl (Nat.le_refl _) rfl (Nat.zero_le _)) A0 n0 c0 b rfl HN0.out (hl0.alloc _) (by omega) (by unfold maxLen; omega) (by simp) ?_; intro A2 c2 w2 hown2 _ hb2; rw [Nat.zero_add] at hown2; have hw2 : Below w.heap.size w w2 := ((Below.refl _ w).alloc (Nat.le_refl _) _).trans hb2; have hz2 := hw2.size; have hq0 := (hw2.cell (p := ⟨g, 0, none⟩) hlt).trans hr0; have hq1 := (hw2.cell (p := ⟨g, 1, none⟩) hlt).trans hr1))
    | (at_builtin; go_must (refine wpList_append_lies kit8 one8 _ rfl (.tmp 20) (.tmp 21) rfl w.heap.size _ n0 ([] ++ b) rfl hown2 A n k c rfl HN.out (hc.below hw2 (Nat.le_refl _)) (by have := HN0.out; omega) (by have := HN0.out; unfold maxLen; omega) hz2 ?_; intro A3 c3 w3 hown3 _ hb3; have hw3 : Below w.heap.size w w3 := hw2.trans hb3; have hrow3 := (hw3.block g hlt).trans hrow; obtain ⟨hs0, hs1, hf0, hf1⟩ := row_two hrow3)))
  clear hown2 hb2 hw2 hz2 hq0 hq1 hr0 hr1 hz0 hz1
  obtain ⟨hk3, hm3, hn3, hy3⟩ := own_at hown3
  rw [List.nil_append] at hy3 hn3
  have hset : But [g] w (w3.setCell ⟨g, 0, none⟩ (.slice A3 (n0 + n) c3)) := (But.of_below hw3 (Nat.le_refl _) [g]).setCell (.inl (by simp)) _
  obtain ⟨A5, n5, c5, hrs⟩ : ∃ A5 n5 c5, (w3.setCell ⟨g, 0, none⟩ (.slice A3 (n0 + n) c3)).heap[g]? = some (.cells #[.slice A5 n5 c5, .bool false] 29 (0, 0)) ∧ (b ++ c).length = n5 ∧ n5 ≤ c5 ∧ c5 ≤ maxLen ∧ Lies u8v (w3.setCell ⟨g, 0, none⟩ (.slice A3 (n0 + n) c3)) A5 (b ++ c) ∧ (∀ b o s, A5 = some ⟨b, o, s⟩ → w.heap.size ≤ b) := ⟨A3, n0 + n, c3, by simp [World.setCell, Array.getElem?_modify, hrow3], hn3, hk3, hm3, hy3.but ((But.refl [g] w3).setCell (.inl (by simp)) _) (far_two hrow3 hy3), fun b o s e => by subst e; exact (hown3.lt b rfl).1⟩
  generalize w3.setCell ⟨g, 0, none⟩ (.slice A3 (n0 + n) c3) = w4 at *
  clear hs0 hs1 hf0 hf1 hrow3 hw3 hb3 hown3 hy3 hl0 hrow hc hk3 hm3
  have HL := Lib.hid hn3
  go_loopw [6] (fun o wr => TakeInv w g (n0 + n) (b ++ c) o wr) (fun _ wr => heldN g wr)
  case atStart => exact ⟨none, 0, 0, [], [], b ++ c, A5, n5, c5, rfl, rfl, World.ownsRow_nil _ _ _ _, rfl, ⟨hrs.1, hrs.2.1, hrs.2.2.1, hrs.2.2.2.1, hrs.2.2.2.2.1, fun b o s e _ => ⟨(fun _ _ _ h => by cases h), hrs.2.2.2.2.2 b o s e⟩⟩, by omega, by simp, hset⟩
  case round =>
    obtain ⟨Ao, no, co, vs, fs, r, A1, n1, c1, rfl, hfs, hown, hfr, ⟨hrow1, hn1, hc1, hm1, hl1, hoff1⟩, hbound, hcut, hbut⟩ := hrel
    obtain ⟨hr0, hr1, hz0, hz1⟩ := row_two hrow1
    have hltg := row_lt hrow1
    have HH : Hid (heldN g wr = n1) := Lib.hid (by unfold heldN; rw [hr0])
    have HAo : Hid (∀ g o s, Ao = some ⟨g, o, s⟩ → g < wr.heap.size) := Lib.hid (fun g o s e => by subst e; exact (hown.lt g rfl).2)
    have HOF := Lib.hid hoff1
    have hzr : wr.heap.size ≤ w.heap.size + (wr.heap.size - w.heap.size) := by omega
    have hn16 : n1 ≤ 60000 := by omega
    have HR := Lib.hid hn1
    have hbnd : no + n1 ≤ n0 + n := by omega
    clear hn1 hbound
    go_wp2_with fail
    refine (rread4_any A1 n1 c1 r HR.out hc1 hn16 _ hl1).mono ?_
    rintro e w5 ⟨A4, n4, c4, rfl, hn4, hnc4, hcm4, hy4, hbe4, hnew4⟩
    have hrow5 := row_later hrow1 hbe4
    have hown5 := own_but hown (But.of_below hbe4 (Nat.le_refl _) []) (by simp)
    have hfr5 := hfr.below hbe4 (Nat.le_refl _)
    have hl5 := hl1.below hbe4 (Nat.le_refl _)
    have hbut5 := hbut.then_below hbe4
    have hlt5 : g < w5.heap.size := row_lt hrow5
    have hsz5 : w.heap.size ≤ w5.heap.size := hbut5.size
    have HZ5 := Lib.hid hbe4.size
    clear hr0 hr1 hz0 hz1 hltg hrow1 hown hfr hl1 hbut hoff1 hzr
    obtain ⟨hr0, hr1, hz0, hz1⟩ := row_two hrow5
    by_cases hg2 : Mb.codeB r = 2
    · have HC := Lib.hid (Stm.cut_bad hg2)
      rw [hg2]
      clear hg2 hn4 hy4 hnew4
      go_wp2_with fail
      go_ret2
      have hbw : But [g] w5 (((w5.setCell ⟨g, 1, none⟩ (.bool true)).setCell ⟨g, 0, none⟩ (.slice none 0 0)).alloc (.cells #[u16v (Mb.tid r), u8v (Mb.unit r), .slice A4 n4 c4] 55)) := (((But.refl [g] w5).setCell (.inl (by simp)) _).setCell (.inl (by simp)) _).alloc _
      obtain ⟨ho1, ho2, _, ho3⟩ := ownN_at hown5
      exact RTakePost.mk (bad := true) (by rw [hcut, HC.out, List.append_nil]) hfs ho1 ho2 (ho3.but hbw (own_not hown5 hlt)) (hfr5.but hrow5 hbw) ⟨none, 0, 0, row_made (two_back hrow5 _ _) _, rfl, Nat.le_refl _, Nat.zero_le _, Lies.nil _ _, by rintro _ _ _ h; cases h⟩ (hbut5.trans hbw)
    · have he2 : (((Mb.codeB r : Nat) : Int) == 2) = false := by rw [beq_eq_false_iff_ne]; omega
      by_cases hg0 : Mb.codeB r = 0
      · have hsz := Mb.again_size hg0
        rw [HR.out] at hsz
        have HC := Lib.hid (Stm.cut_frame hg0)
        obtain ⟨z, hz⟩ : ∃ z, Mb.size r = z := ⟨_, rfl⟩
        rw [hz] at hsz
        have HZ := Lib.hid hz
        obtain ⟨b1, o1, rfl, hb1, _⟩ := hl5.at_ (by rw [HR.out]; omega)
        rw [hg0, hz]
        have HX : Hid (FrOk (offRow Ao) w5 ⟨Mb.tid r, Mb.unit r, Mb.pdu r⟩ (A4, n4, c4)) := Lib.hid ⟨hn4, hnc4, hcm4, hy4, fun b o s e h0 g' o' s' e' => by have := hnew4 b o s e h0; have := HAo.out g' o' s' e'; omega⟩
        have hno : no ≤ 60000 := by omega
        clear hg0 hg2 he2 hz hn4 hnc4 hcm4 hy4 hnew4
        have i1 : (z : Int) ≤ (n1 : Int) := by omega
        go_wp2_with (at_builtin; go_must (refine wpList_append_cells kitF _ rfl (.tmp 46) (.tmp 48) rfl w.heap.size _ no vs rfl (own_but hown5 (((But.refl [] w5).alloc (.cells #[u16v (Mb.tid r), u8v (Mb.unit r), .slice A4 n4 c4] 55)).alloc (.cells #[u16v (Mb.tid r), u8v (Mb.unit r), .slice A4 n4 c4] 55)) (by simp)) (some ⟨w5.heap.size + 1, 0, none⟩) 1 1 (frCells ⟨Mb.tid r, Mb.unit r, Mb.pdu r⟩ (A4, n4, c4)) rfl rfl (lies_at _ _ _ _ _ (by simp [frCells]) (by simp)) (fr_one _ _) (by omega) (by unfold maxLen; omega) (by simp; omega) ?_; intro A6 c6 w6 hown6 hgr6 hb6 hat6; have hrow6 := (hb6.block g hlt).trans (row_made (row_made hrow5 _) _); obtain ⟨hs0, hs1, hf0, hf1⟩ := row_two hrow6))
        have hw5 : Below w5.heap.size w5 ((w5.alloc (.cells #[u16v (Mb.tid r), u8v (Mb.unit r), .slice A4 n4 c4] 55)).alloc (.cells #[u16v (Mb.tid r), u8v (Mb.unit r), .slice A4 n4 c4] 55)) := ((Below.refl _ _).alloc (Nat.le_refl _) _).alloc (by simp) _
        have hmv : ∀ b, offRow Ao b → b < w5.heap.size → w6.heap[b]? = w5.heap[b]? ∧ offRow A6 b := by
          intro b hb hlb
          refine ⟨(hgr6.block b (by simp; omega) ?_).trans (hw5.block b hlb), ?_⟩
          · intro e
            rcases Ao with _ | ⟨gb, go_, gs⟩
            · cases e
            · have e' : some b = some gb := e
              exact hb _ _ _ rfl (Option.some.inj e')
          · intro g' o' s' e'
            rcases hat6 g' o' s' e' with h | h
            · rcases Ao with _ | ⟨gb, go_, gs⟩
              · cases h
              · have h' : some gb = some g' := h
                rw [← Option.some.inj h']
                exact hb _ _ _ rfl
            · simp at h
              omega
        have hfr6 : FrsIn (offRow A6) w6 (vs ++ frCells ⟨Mb.tid r, Mb.unit r, Mb.pdu r⟩ (A4, n4, c4)) (fs ++ [⟨Mb.tid r, Mb.unit r, Mb.pdu r⟩]) := (hfr5.append (FrsIn.one HX.out)).move hmv
        have hoff := hmv b1 (HOF.out b1 o1 none rfl (by omega)).1 hb1
        have hl6 : Lies u8v w6 (some ⟨b1, o1, none⟩) r := Lies.of_row fun j hj => (World.cell?_of_block (w := w5) (a := ⟨b1, o1 + j, none⟩) hoff.1).trans (hl5.row j hj)
        have hset6 : ∀ X, But [g] w6 (w6.setCell ⟨g, 0, none⟩ X) := fun X => (But.refl [g] w6).setCell (.inl (by simp)) _
        have hbw6 : But [g] w w6 := ((hbut5.alloc _).alloc _).then_low hb6
        obtain ⟨_, _, hlv6, _⟩ := ownN_at hown6
        go_roundw
        case rel =>
          refine ⟨A6, no + 1, c6, _, _, r.drop z, _, n1 - z, c1 - z, rfl, ?_, own_but hown6 (hset6 _) ?_, hfr6.but hrow6 (hset6 _), ⟨one_stored hrow6 _, ?_, by omega, by omega, ?_, ?_⟩, ?_, ?_, hbw6.trans (hset6 _)⟩
          · rw [List.length_append, hfs]; rfl
          · intro g' e' hm
            obtain rfl : g' = g := by simpa using hm
            have := (hown6.lt g' e').1
            omega
          · rw [List.length_drop, HR.out]
          · by_cases hcz : c1 = z
            · have : r.drop z = [] := List.eq_nil_of_length_eq_zero (by rw [List.length_drop, HR.out]; omega)
              rw [this]
              exact Lies.nil _ _
            · rw [if_neg hcz]
              have hd := hl6.drop z
              exact hd.but (hset6 _) (far_two hrow6 hd)
          · intro b o s e h0
            by_cases hcz : c1 = z
            · omega
            · rw [if_neg hcz] at e
              cases e
              exact ⟨hoff.2, (HOF.out b1 o1 none rfl (by omega)).2⟩
          · rw [List.length_drop, HR.out]; omega
          · rw [hcut, HC.out, HZ.out, List.append_assoc]; rfl
        case measure =>
          rw [HH.out]
          unfold heldN
          rw [(row_two' (one_stored hrow6 _)).1]
          show n1 - z < n1
          omega
      · have he0 : (((Mb.codeB r : Nat) : Int) != 0) = true := by rw [bne_iff_ne]; omega
        have HC := Lib.hid (Stm.cut_short hg0 hg2)
        clear hg0 hg2 hn4 hy4 hnew4
        generalize Mb.codeB r = q at he2 he0
        go_wp2_with fail
        go_ret2
        have hbw : Below w5.heap.size w5 (w5.alloc (.cells #[u16v (Mb.tid r), u8v (Mb.unit r), .slice A4 n4 c4] 55)) := (Below.refl _ _).alloc (Nat.le_refl _) _
        obtain ⟨ho1, ho2, _, ho3⟩ := ownN_at hown5
        exact RTakePost.mk (bad := false) (by rw [hcut, HC.out, List.append_nil]) hfs ho1 ho2 (ho3.below hbw (Nat.le_refl _)) (hfr5.below hbw (Nat.le_refl _)) ⟨A1, n1, c1, row_made hrow5 _, HR.out, hc1, hm1, hl5.below hbw (Nat.le_refl _), fun b o s e h0 => (HOF.out b o s e h0).2⟩ (hbut5.then_below hbw)
end Go.Proofs.Ytophchhienlafaa
