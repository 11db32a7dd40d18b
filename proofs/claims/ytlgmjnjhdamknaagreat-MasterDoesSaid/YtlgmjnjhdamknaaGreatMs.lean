
/- A part of the proof of the law MasterDoes. -/
import Derived.Test.YtlgmjnjhdamknaaGreatMem
import Derived.Test.YtlgmjnjhdamknaaGreatRtu
import Derived.Test.YtlgmjnjhdamknaaGreatRow
namespace Go.Proofs.YtlgmjnjhdamknaaGreat
open Go.RowKit

structure Cfg where
  unit : UInt8
  gap : Nat
  wait : Nat
  tries : Nat
inductive MSt
  | idle
  | wants (spent tried : Nat) (a : Ask)
  | waits (spent tried : Nat) (a : Ask) (came : List UInt8)
structure Mst where
  quiet : Nat
  st : MSt
inductive MOut
  | none
  | done (x : Ans)
  | silent
  | garbled

namespace Ms
def right (c : Cfg) : Bool := decide (1 ≤ c.unit.toNat) && decide (c.unit.toNat ≤ 247) && decide (1 ≤ c.gap) && decide (c.gap ≤ 20) && decide (1 ≤ c.wait) && decide (c.wait ≤ 1000) && decide (1 ≤ c.tries) && decide (c.tries ≤ 5)
def kind : MOut → Nat
  | .none => 0
  | .done _ => 1
  | .silent => 2
  | .garbled => 3
def ans : MOut → Ans
  | .done x => x
  | _ => An.zero
def code : MSt → Nat
  | .idle => 0
  | .wants .. => 1
  | .waits .. => 2
def sent (c : Cfg) (a : Ask) : List UInt8 := Rtu.bytes c.unit (Ak.bytes a)
def heard (c : Cfg) (a : Ask) (b : List UInt8) : Option Ans :=
  if Rtu.codeB b = 0 ∧ Rtu.unit b = c.unit ∧ (An.read a (Rtu.pdu b)).2 = 0 then some (An.read a (Rtu.pdu b)).1 else none
def fail (c : Cfg) (q tried : Nat) (a : Ask) (o : MOut) : Mst × List UInt8 × MOut :=
  if tried < c.tries then (⟨q, .wants 0 tried a⟩, [], .none) else (⟨q, .idle⟩, [], o)
def tickSt (c : Cfg) (q : Nat) : MSt → Mst × List UInt8 × MOut
  | .idle => (⟨q, .idle⟩, [], .none)
  | .wants f t a => if q < c.gap ∧ f + 1 < c.wait then (⟨q, .wants (f + 1) t a⟩, [], .none) else (⟨0, .waits 0 (t + 1) a []⟩, sent c a, .none)
  | .waits f t a b =>
    if b = [] then (if c.wait ≤ f + 1 then fail c q t a .silent else (⟨q, .waits (f + 1) t a b⟩, [], .none))
    else if c.gap ≤ q then (match heard c a b with
      | some x => (⟨q, .idle⟩, [], .done x)
      | none => fail c q t a .garbled)
    else if 2 * c.wait ≤ f + 1 then fail c q t a .garbled else (⟨q, .waits (f + 1) t a b⟩, [], .none)
def tick (c : Cfg) (m : Mst) : Mst × List UInt8 × MOut := tickSt c (min (m.quiet + 1) c.gap) m.st
def takeSt (b : List UInt8) : MSt → MSt
  | .waits f t a d => .waits f t a ((d ++ b).take 300)
  | s => s
def take (m : Mst) (b : List UInt8) : Mst := if b = [] then m else ⟨0, takeSt b m.st⟩
def start (m : Mst) (a : Ask) : Mst × Nat :=
  if code m.st ≠ 0 then (m, 8) else if Ak.right a = true then (⟨m.quiet, .wants 0 0 a⟩, 0) else (m, 2)

def tried : MSt → Nat
  | .idle => 0
  | .wants _ t _ => t
  | .waits _ t _ _ => t
def left (c : Cfg) : MSt → Nat
  | .idle => 0
  | .wants f t _ => (c.wait - f) + 2 * c.wait + 3 * c.wait * (c.tries - t - 1)
  | .waits f t _ _ => (2 * c.wait - f) + 3 * c.wait * (c.tries - t)
def Busy (c : Cfg) (a : Ask) : MSt → Prop
  | .idle => False
  | .wants f t a' => a' = a ∧ f < c.wait ∧ t < c.tries
  | .waits f t a' b => a' = a ∧ f < 2 * c.wait ∧ 1 ≤ t ∧ t ≤ c.tries ∧ b.length ≤ 300 ∧ (b = [] → f < c.wait)
theorem Busy.take {c : Cfg} {a : Ask} {m : Mst} (b : List UInt8) (h : Busy c a m.st) : Busy c a (take m b).st ∧ left c (Ms.take m b).st = left c m.st ∧ tried (Ms.take m b).st = tried m.st := by
  unfold Ms.take
  split
  · exact ⟨h, rfl, rfl⟩
  · rename_i hb
    obtain ⟨q, s⟩ := m
    cases s with
    | idle => exact h.elim
    | wants f t a' => exact ⟨h, rfl, rfl⟩
    | waits f t a' d =>
      obtain ⟨h1, h2, h3, h4, h5, h6⟩ := h
      refine ⟨⟨h1, h2, h3, h4, by rw [List.length_take]; omega, fun he => ?_⟩, rfl, rfl⟩
      have : ((d ++ b).take 300).length = 0 := by rw [he]; rfl
      rw [List.length_take, List.length_append] at this
      have hb' : 0 < b.length := List.length_pos_iff.2 hb
      omega
theorem left_next (c : Cfg) {t : Nat} (h : t < c.tries) : 3 * c.wait * (c.tries - t) = 3 * c.wait * (c.tries - t - 1) + 3 * c.wait := by
  obtain ⟨k, hk⟩ : ∃ k, c.tries - t = k + 1 := ⟨c.tries - t - 1, by omega⟩
  rw [hk, Nat.mul_succ, Nat.add_sub_cancel]
theorem heard_right {c : Cfg} {a : Ask} {b : List UInt8} {x : Ans} (h : heard c a b = some x) : An.right a x = true := by
  unfold heard at h
  split at h
  · rename_i hh
    obtain rfl := Option.some.inj h
    rcases An.read_back a (Rtu.pdu b) with ⟨-, h2, -⟩ | ⟨h2, -⟩
    · exact h2
    · exact absurd hh.2.2 h2
  · cases h
inductive Ticked (c : Cfg) (a : Ask) (s : MSt) : Mst × List UInt8 × MOut → Prop
  | on (m : Mst) (hb : Busy c a m.st) (hl : left c m.st + 1 ≤ left c s) (ht : tried m.st = tried s) : Ticked c a s (m, [], .none)
  | send (m : Mst) (hb : Busy c a m.st) (hl : left c m.st + 1 ≤ left c s) (ht : tried m.st = tried s + 1) (h1 : tried s + 1 ≤ c.tries) : Ticked c a s (m, sent c a, .none)
  | done (q : Nat) (x : Ans) (hx : An.right a x = true) : Ticked c a s (⟨q, .idle⟩, [], .done x)
  | silent (q : Nat) (ht : tried s = c.tries) : Ticked c a s (⟨q, .idle⟩, [], .silent)
  | garbled (q : Nat) (ht : tried s = c.tries) : Ticked c a s (⟨q, .idle⟩, [], .garbled)
theorem fail_ticked {c : Cfg} {a : Ask} {f t q : Nat} {b : List UInt8} (h1 : 1 ≤ c.wait) (hf : f < 2 * c.wait) (ht : t ≤ c.tries) (o : MOut) (ho : o = .silent ∨ o = .garbled) : Ticked c a (.waits f t a b) (fail c q t a o) := by
  unfold fail
  split
  · rename_i h
    refine .on _ ⟨rfl, h1, h⟩ ?_ rfl
    show (c.wait - 0) + 2 * c.wait + 3 * c.wait * (c.tries - t - 1) + 1 ≤ (2 * c.wait - f) + 3 * c.wait * (c.tries - t)
    rw [left_next c h]
    omega
  · rename_i h
    have e : t = c.tries := by omega
    rcases ho with rfl | rfl
    · exact .silent _ e
    · exact .garbled _ e
theorem ticked {c : Cfg} {a : Ask} {m : Mst} (h1 : 1 ≤ c.wait) (h : Busy c a m.st) : Ticked c a m.st (tick c m) := by
  obtain ⟨q0, s⟩ := m
  show Ticked c a s (tickSt c (min (q0 + 1) c.gap) s)
  generalize min (q0 + 1) c.gap = q
  have h : Busy c a s := h
  cases s with
  | idle => exact h.elim
  | wants f t a' =>
    obtain ⟨rfl, hf, ht⟩ := h
    unfold tickSt
    dsimp only
    split
    · rename_i hq
      refine .on _ ⟨rfl, hq.2, ht⟩ ?_ rfl
      show (c.wait - (f + 1)) + 2 * c.wait + _ + 1 ≤ (c.wait - f) + 2 * c.wait + _
      omega
    · refine .send _ ⟨rfl, by omega, by omega, by omega, by simp, fun _ => h1⟩ ?_ rfl ht
      show (2 * c.wait - 0) + 3 * c.wait * (c.tries - (t + 1)) + 1 ≤ (c.wait - f) + 2 * c.wait + 3 * c.wait * (c.tries - t - 1)
      rw [show c.tries - (t + 1) = c.tries - t - 1 by omega]
      omega
  | waits f t a' b =>
    obtain ⟨rfl, hf, ht1, ht, h300, hb⟩ := h
    unfold tickSt
    dsimp only
    split
    · rename_i he
      split
      · exact fail_ticked h1 hf ht _ (.inl rfl)
      · rename_i hw
        refine .on _ ⟨rfl, by omega, ht1, ht, h300, fun _ => by omega⟩ ?_ rfl
        show (2 * c.wait - (f + 1)) + _ + 1 ≤ (2 * c.wait - f) + _
        omega
    · rename_i he
      split
      · split
        · rename_i x hx
          exact .done _ _ (heard_right hx)
        · exact fail_ticked h1 hf ht _ (.inr rfl)
      · split
        · exact fail_ticked h1 hf ht _ (.inr rfl)
        · rename_i hw
          refine .on _ ⟨rfl, by omega, ht1, ht, h300, fun h => absurd h he⟩ ?_ rfl
          show (2 * c.wait - (f + 1)) + _ + 1 ≤ (2 * c.wait - f) + _
          omega
theorem heard_there {c : Cfg} {a : Ask} {x : Ans} (h : An.right a x = true) : heard c a (Rtu.bytes c.unit (An.text a x)) = some x ∧ 4 ≤ (Rtu.bytes c.unit (An.text a x)).length ∧ (Rtu.bytes c.unit (An.text a x)).length ≤ 256 := by
  have hr := (An.right_parts h).1
  obtain ⟨-, h2, h3⟩ := An.guess_text hr (An.shape h)
  have hc := Rtu.codeP_good (An.text a x) (by omega) h3
  refine ⟨?_, by rw [Rtu.bytes_length hc]; omega, by rw [Rtu.bytes_length hc]; omega⟩
  unfold heard
  rw [Rtu.there hc, Rtu.there_unit hc, Rtu.there_pdu hc, An.read_text h, if_pos ⟨rfl, rfl, rfl⟩]
theorem tick_quiet {c : Cfg} {i : Nat} {t : Nat} {a : Ask} {b : List UInt8} (hb : b ≠ []) (hi : i + 1 < c.gap) (hg : c.gap ≤ 2 * c.wait - 1) : tick c ⟨i, .waits i t a b⟩ = (⟨i + 1, .waits (i + 1) t a b⟩, [], .none) := by
  show tickSt c (min (i + 1) c.gap) (.waits i t a b) = _
  rw [Nat.min_eq_left (by omega)]
  unfold tickSt
  dsimp only
  rw [if_neg hb, if_neg (by omega), if_neg (by omega)]
theorem tick_heard {c : Cfg} {i : Nat} {t : Nat} {a : Ask} {b : List UInt8} {x : Ans} (hb : b ≠ []) (hi : i + 1 = c.gap) (hx : heard c a b = some x) : tick c ⟨i, .waits i t a b⟩ = (⟨c.gap, .idle⟩, [], .done x) := by
  show tickSt c (min (i + 1) c.gap) (.waits i t a b) = _
  rw [hi, Nat.min_self]
  unfold tickSt
  dsimp only
  rw [if_neg hb, if_pos (zq _), hx]
def Ok (c : Cfg) (s : MSt) : Prop := s = .idle ∨ ∃ a, Busy c a s ∧ Ak.right a = true
theorem Ok.tick {c : Cfg} {m : Mst} (h1 : 1 ≤ c.wait) (h : Ok c m.st) : Ok c (Ms.tick c m).1.st := by
  rcases h with h | ⟨a, h, hr⟩
  · obtain ⟨q, s⟩ := m
    obtain rfl : s = .idle := h
    exact .inl rfl
  · have ht := ticked h1 h
    generalize Ms.tick c m = r at ht
    cases ht with
    | on m' hb => exact .inr ⟨a, hb, hr⟩
    | send m' hb => exact .inr ⟨a, hb, hr⟩
    | done => exact .inl rfl
    | silent => exact .inl rfl
    | garbled => exact .inl rfl
theorem Ok.take {c : Cfg} {m : Mst} (b : List UInt8) (h : Ok c m.st) : Ok c (Ms.take m b).st := by
  rcases h with h | ⟨a, h, hr⟩
  · obtain ⟨q, s⟩ := m
    obtain rfl : s = .idle := h
    left
    unfold Ms.take
    split <;> rfl
  · exact .inr ⟨a, (h.take b).1, hr⟩
theorem Ok.start {c : Cfg} {m : Mst} (a : Ask) (h1 : 1 ≤ c.wait) (h2 : 1 ≤ c.tries) (h : Ok c m.st) : Ok c (Ms.start m a).1.st := by
  unfold Ms.start
  split
  · exact h
  · split
    · rename_i hr
      exact .inr ⟨a, ⟨rfl, h1, h2⟩, hr⟩
    · exact h
end Ms
end Go.Proofs.YtlgmjnjhdamknaaGreat

namespace Go.Proofs.YtlgmjnjhdamknaaGreat
open Go.RowKit

structure But (S : List Nat) (w w' : World) : Prop where
  os : w'.os = w.os
  tape : w'.tape = w.tape
  output : w'.output = w.output
  size : w.heap.size ≤ w'.heap.size
  block : ∀ k, k < w.heap.size → k ∉ S → w'.heap[k]? = w.heap[k]?

section
variable {S T : List Nat} {a b w w' : World}
theorem But.refl (S : List Nat) (w : World) : But S w w := ⟨rfl, rfl, rfl, zq _, fun _ _ _ => rfl⟩
theorem But.trans (h : But S a b) (k : But S b w) : But S a w :=
  ⟨k.os.trans h.os, k.tape.trans h.tape, k.output.trans h.output, Nat.le_trans h.size k.size, fun i hi hn => (k.block i (Nat.lt_of_lt_of_le hi h.size) hn).trans (h.block i hi hn)⟩
theorem But.mono (h : But S w w') (hS : ∀ k ∈ S, k ∈ T) : But T w w' := ⟨h.os, h.tape, h.output, h.size, fun k hk hn => h.block k hk fun hm => hn (hS k hm)⟩
theorem But.of_below {B : Nat} (h : Below B w w') (hB : w.heap.size ≤ B) (S : List Nat := []) : But S w w' := ⟨h.os, h.tape, h.output, h.size, fun k hk _ => h.block k (Nat.lt_of_lt_of_le hk hB)⟩
theorem But.below {B : Nat} (h : But S w w') (hS : ∀ k ∈ S, B ≤ k) (hB : B ≤ w.heap.size) : Below B w w' := ⟨h.os, h.tape, h.output, h.size, fun k hk => h.block k (Nat.lt_of_lt_of_le hk hB) fun hm => absurd (hS k hm) (by omega)⟩
theorem But.then_below (h : But S a w) (k : Below w.heap.size w w') : But S a w' := h.trans (But.of_below k (zq _) S)
theorem But.then_low (h : But S a w) (k : Below a.heap.size w w') : But S a w' :=
  ⟨k.os.trans h.os, k.tape.trans h.tape, k.output.trans h.output, Nat.le_trans h.size k.size, fun i hi hn => (k.block i hi).trans (h.block i hi hn)⟩
theorem But.alloc (h : But S a w) (o : Obj) : But S a (w.alloc o) := h.then_below ((Below.refl _ _).alloc (zq _) o)
theorem But.drewN (h : But S a w) (n : Nat) : But S a (w.drewN n) := ⟨h.os, h.tape, h.output, h.size, h.block⟩
theorem But.setCell (h : But S a w) {p : Addr} (hp : p.block ∈ S ∨ a.heap.size ≤ p.block) (u : Value) : But S a (w.setCell p u) := by
  refine ⟨h.os, h.tape, h.output, by rw [show (w.setCell p u).heap.size = w.heap.size by simp [World.setCell]]; exact h.size, fun k hk hn => ?_⟩
  rw [Below.heap_setCell w p u k (by rintro rfl; rcases hp with hp | hp; exact hn hp; omega)]
  exact h.block k hk hn
theorem But.cell (h : But S w w') {p : Addr} (hp : p.block < w.heap.size) (hn : p.block ∉ S) : w'.cell? p = w.cell? p := World.cell?_of_block (w := w) (h.block p.block hp hn)
theorem But.grown {row : Option Nat} (h : But S a w) (hg : w.grownBy w' row) (hr : ∀ k, row = some k → k ∈ S ∨ a.heap.size ≤ k) : But S a w' := by
  refine ⟨hg.os.trans h.os, hg.tape.trans h.tape, hg.output.trans h.output, Nat.le_trans h.size hg.size, fun k hk hn => ?_⟩
  rw [hg.block k (Nat.lt_of_lt_of_le hk h.size) (fun e => by rcases hr k e.symm with h1 | h1; exact hn h1; omega)]
  exact h.block k hk hn
theorem Lies.but {α : Type} {f : α → Value} {A : Option Addr} {l : List α} (h : Lies f w A l) (hb : But S w w') (hn : ∀ b o s, A = some ⟨b, o, s⟩ → 0 < l.length → b ∉ S) : Lies f w' A l := by
  intro j hj
  obtain ⟨b, off, rfl, hc⟩ := h j hj
  exact ⟨b, off, rfl, (hb.cell (p := ⟨b, off + j, none⟩) (World.block_lt_of_cell? w _ hc) (hn _ _ _ rfl (by omega))).trans hc⟩
theorem row_but {g : Nat} {o : Obj} (h : w.heap[g]? = some o) (hb : But S w w') (hn : g ∉ S) : w'.heap[g]? = some o := (hb.block g (row_lt h) hn).trans h
theorem own_but {B e k n : Nat} {v : Value} {xs : List Value} (h : w.ownsRow B e k v n xs) (hb : But S w w') (hn : ∀ g, v.ownBlock = some g → g ∉ S) : w'.ownsRow B e k v n xs := by
  refine ⟨h.1, ?_⟩
  rcases h.2 with h' | ⟨g, cap, cur, rfl, hbg, hg, rest⟩
  · exact .inl h'
  · exact .inr ⟨g, cap, cur, rfl, hbg, row_but hg hb (hn g rfl), rest⟩
theorem far_row {g : Nat} {cs : Array Value} {t : TypeId} {fr : Nat × Nat} {α : Type} {f : α → Value} {A : Option Addr} {l : List α} (hg : w.heap[g]? = some (.cells cs t fr)) (h : Lies f w A l) (hne : ∀ (x : α) (i : Nat) (v : Value), cs[i]? = some v → f x ≠ v) : ∀ b o s, A = some ⟨b, o, s⟩ → 0 < l.length → b ∉ [g] := by
  rintro b o s rfl h0 hm
  obtain rfl : b = g := by simpa using hm
  obtain ⟨b', o', e, hc⟩ := h 0 h0
  cases e
  rw [cell_of_row w _ _ _ _ _ hg] at hc
  exact hne _ _ _ hc rfl
end
end Go.Proofs.YtlgmjnjhdamknaaGreat

namespace Go.Proofs.YtlgmjnjhdamknaaGreat
open Go.RowKit

namespace Word
def isBitsI (b : List UInt8) (N : Int) : Bool := decide (0 ≤ N) && isBits b N.toNat
def ansBitsI (b : List UInt8) (N : Int) : List Bool := if isBitsI b N then bitsOf b N.toNat else []
theorem take_set {α : Type} (cs : List α) (j : Nat) (y : α) (h : j < cs.length) : (cs.set j y).take (j + 1) = cs.take j ++ [y] := by
  rw [List.take_succ_eq_append_getElem (by rw [List.length_set]; exact h), List.getElem_set_self]
  congr 1
  apply List.ext_getElem
  · simp
  · intro i h1 h2
    simp at h1 h2
    rw [List.getElem_take, List.getElem_take, List.getElem_set_ne (by omega)]
theorem bitsOf_succ (b : List UInt8) (j : Nat) : bitsOf b (j + 1) = bitsOf b j ++ [bitAt b j] := by
  unfold bitsOf
  rw [List.range_succ, List.map_append, List.map_cons, List.map_nil]
end Word

def BitsPost (w : World) (b : List UInt8) (N : Int) (e : Ending) (w' : World) : Prop :=
  ∃ A' n' c', e = .returned (.tuple #[.slice A' n' c', .bool (Word.isBitsI b N)]) ∧ (Word.ansBitsI b N).length = n' ∧ n' ≤ c' ∧ c' ≤ maxLen ∧ Lies bitv w' A' (Word.ansBitsI b N) ∧ Below w.heap.size w w' ∧ ∀ b o s, A' = some ⟨b, o, s⟩ → 0 < n' → w.heap.size ≤ b
theorem BitsPost.none (w w' : World) (b : List UInt8) (N : Int) (h : Word.isBitsI b N = false) (hb : Below w.heap.size w w') : BitsPost w b N (.returned (.tuple #[.slice Option.none 0 0, .bool false])) w' :=
  have hc : Word.ansBitsI b N = [] := by unfold Word.ansBitsI; rw [h]; rfl
  ⟨Option.none, 0, 0, by rw [h], by rw [hc]; rfl, zq _, Nat.zero_le _, by rw [hc]; exact Lies.nil _ _, hb, by rintro _ _ _ h; cases h⟩
theorem BitsPost.some (w w' : World) (b : List UInt8) (n : Nat) (A : Option Addr) (c : Nat) (h : Word.isBitsI b n = true) (hc : n ≤ c) (hm : c ≤ maxLen) (hy : Lies bitv w' A (Word.bitsOf b n)) (hb : Below w.heap.size w w') (hf : ∀ b o s, A = some ⟨b, o, s⟩ → 0 < n → w.heap.size ≤ b) :
    BitsPost w b n (.returned (.tuple #[.slice A n c, .bool true])) w' :=
  have hc' : Word.ansBitsI b n = Word.bitsOf b n := by unfold Word.ansBitsI; rw [h]; rfl
  ⟨A, n, c, by rw [h], by rw [hc', Word.bitsOf_length], hc, hm, by rw [hc']; exact hy, hb, hf⟩

theorem bit_val (x r : Nat) (h : x < 2 ^ 8) : (bits .and .u8 ((x : Int) / (2 : Int) ^ r) 1 == (1 : Int)) = decide (x / 2 ^ r % 2 = 1) := by
  have hq : x / 2 ^ r ≤ x := Nat.div_le_self _ _
  have e : ((x : Int) / (2 : Int) ^ r) = ((x / 2 ^ r : Nat) : Int) := by rw [Int.natCast_ediv, Int.natCast_pow]; rfl
  rw [e, show (1 : Int) = ((1 : Nat) : Int) from rfl, u8_and_nat _ 1 (by omega) (by omega), Nat.and_one_is_mod]
  rcases Nat.mod_two_eq_zero_or_one (x / 2 ^ r) with h' | h' <;> rw [h'] <;> rfl
theorem shr_zero (x r : Nat) (h : x / 2 ^ r = 0) : ((x : Int) / (2 : Int) ^ r != 0) = false := by
  have e : ((x : Int) / (2 : Int) ^ r) = ((x / 2 ^ r : Nat) : Int) := by rw [Int.natCast_ediv, Int.natCast_pow]; rfl
  rw [e, h]
  rfl
theorem shr_more (x r : Nat) (h : x / 2 ^ r ≠ 0) : ((x : Int) / (2 : Int) ^ r != 0) = true := by
  have e : ((x : Int) / (2 : Int) ^ r) = ((x / 2 ^ r : Nat) : Int) := by rw [Int.natCast_ediv, Int.natCast_pow]; rfl
  rw [e, bne_iff_ne]
  omega

set_option maxRecDepth 100000 in
set_option maxHeartbeats 400000 in
theorem bits_yes (A : Option Addr) (m c : Nat) (b : List UInt8) (n : Nat) (hm : b.length = m) (hmc : m ≤ 20000) (hy : Word.isBits b n = true) (w : World) (hb : Lies u8v w A b) :
    Calls Tryz.prog 81 #[.slice A m c, .int .i64 (n : Int)] w (BitsPost w b n) := by
  have hlen := Word.isBits_length hy
  subst hm
  have hn : n ≤ 160000 := by omega
  obtain ⟨i0, hi0, hz0, hz1, hz2⟩ := info_parts kitb.hi
  have HI : Hid (Word.isBitsI b n = true) := qh (by unfold Word.isBitsI; simp [hy])
  have hte : ((b.length : Int) != ((n : Int) + 7) / 8) = false := by rw [bne_eq_false_iff_eq]; omega
  have HLEN := qh hlen
  have HY : Hid (n % 8 = 0 ∨ (b.getD (n / 8) 0).toNat / 2 ^ (n % 8) = 0) := qh (by
    unfold Word.isBits at hy
    rw [Bool.and_eq_true, Bool.or_eq_true, beq_iff_eq, beq_iff_eq, beq_iff_eq] at hy
    exact hy.2)
  clear hy hlen
  by_cases h8 : n % 8 = 0
  · have h8' : ((n : Int) % 8 != 0) = false := by rw [bne_eq_false_iff_eq]; omega
    clear h8
    go_enter Tryz.func81, Tryz.ntmps81
    go_wp2_with (first
      | (go_at_call 130; refine (taken_any n (by omega) _).mono ?_; rintro e w' ⟨rfl, rfl⟩)
      | (at_make; go_must (refine wpList_make_full _ rfl _ _ 37 rfl w.heap.size 4 i0 (.bool false) 1 kitb.ht hi0 hz0 hz1 .i64 .i64 _ _ n rfl rfl (by omega) (by omega) (by rw [hz2]; omega) (by unfold maxLen; omega) (zq _) ?_); intro w1 hown1 hg1; have hb1 : Below w.heap.size w w1 := (Below.refl _ _).grown hg1 (zq _) (by simp)))
    go_loopw [37] (fun iv wr => ∃ j : Nat, j ≤ n ∧ iv = .int .i64 j ∧ ∃ cs : List Bool, Hid (cs.length = n) ∧ Hid (cs.take j = Word.bitsOf b j) ∧ wr.ownsRow w.heap.size 4 1 (.slice (some ⟨w.heap.size, 0, none⟩) n n) n (cs.map bitv) ∧ Below w.heap.size w wr) (fun iv _ => n - (intOf iv).toNat)
    case atStart => exact ⟨0, by omega, rfl, List.replicate n false, qh (by simp), qh rfl, by rw [List.map_replicate, ← toList_madeCells_one, Nat.mul_one] at *; exact hown1, hb1⟩
    case round =>
      clear hown1 hb1 hg1 w1
      obtain ⟨j, hj, rfl, cs, HC, HT, hown, hbe⟩ := hrel
      have hzr := hbe.size
      by_cases hlt : j < n
      · have hq : j / 8 < b.length := by have := HLEN.out; omega
        obtain ⟨b1, o1, rfl, hc1⟩ := (hb.below hbe (zq _)) (j / 8) hq
        have HB : Hid (Word.bitAt b j = decide ((b[j / 8]).toNat / 2 ^ (j % 8) % 2 = 1)) := qh (by unfold Word.bitAt; rw [List.getD_eq_getElem?_getD, List.getElem?_eq_getElem hq, Option.getD_some])
        have hx := (b[j / 8]).toNat_lt
        unfold u8v at hc1
        generalize (b[j / 8]).toNat = x at hc1 HB hx
        have hci := hown.cellAt j (by omega)
        have hfi := hown.frozenAt j
        rw [List.getElem?_map, List.getElem?_eq_getElem (by have := HC.out; omega), Option.map_some] at hci
        have hgl := (hown.lt w.heap.size rfl).2
        have hr8 : j % 8 < 8 := by omega
        have hbv := bit_val x (j % 8) hx
        rw [← HB.out] at hbv
        go_wp2
        have hst := (hown.stored j (.bool (Word.bitAt b j))).1
        rw [show (List.map bitv cs).set j (.bool (Word.bitAt b j)) = (cs.set j (Word.bitAt b j)).map bitv by rw [List.map_set]] at hst
        first | rw [hbv] | skip
        exact ⟨⟨j + 1, by omega, by simp, cs.set j (Word.bitAt b j), qh (by rw [List.length_set]; exact HC.out), qh (by rw [Word.take_set cs j _ (by have := HC.out; omega), HT.out, Word.bitsOf_succ]), hst, hbe.setCell (p := ⟨w.heap.size, j, none⟩) (zq _) _⟩, by simp [intOf]; omega⟩
      · obtain rfl : j = n := by omega
        have hcs : cs = Word.bitsOf b j := by have := HT.out; rwa [← HC.out, List.take_length, HC.out] at this
        rw [hcs] at hown
        go_wp2
        go_ret2
        obtain ⟨h1, h2, h3, h4⟩ := own_at hown
        exact BitsPost.some _ _ _ _ _ _ HI.out h1 h2 h4 hbe (fun b o s e _ => by cases e; exact zq _)
  · have h8' : ((n : Int) % 8 != 0) = true := by rw [bne_iff_ne]; omega
    have hlen := HLEN.out
    obtain ⟨q, hq⟩ : ∃ q, n / 8 = q := ⟨_, rfl⟩
    have hql : q < b.length := by omega
    have hL1 : (b.length : Int) - 1 = (q : Int) := by omega
    have hy2 : (b.getD (n / 8) 0).toNat / 2 ^ (n % 8) = 0 := by
      rcases HY.out with h | h
      · exact absurd h h8
      · exact h
    rw [hq, List.getD_eq_getElem?_getD, List.getElem?_eq_getElem hql, Option.getD_some] at hy2
    obtain ⟨b1, o1, rfl, hc1⟩ := hb q hql
    have hs := shr_zero _ _ hy2
    unfold u8v at hc1
    generalize b[q].toNat = x at hc1 hs
    clear h8 hlen hq hy2
    go_enter Tryz.func81, Tryz.ntmps81
    go_wp2_with (first
      | (go_at_call 130; refine (taken_any n (by omega) _).mono ?_; rintro e w' ⟨rfl, rfl⟩)
      | (at_make; go_must (refine wpList_make_full _ rfl _ _ 37 rfl w.heap.size 4 i0 (.bool false) 1 kitb.ht hi0 hz0 hz1 .i64 .i64 _ _ n rfl rfl (by omega) (by omega) (by rw [hz2]; omega) (by unfold maxLen; omega) (zq _) ?_); intro w1 hown1 hg1; have hb1 : Below w.heap.size w w1 := (Below.refl _ _).grown hg1 (zq _) (by simp)))
    go_loopw [37] (fun iv wr => ∃ j : Nat, j ≤ n ∧ iv = .int .i64 j ∧ ∃ cs : List Bool, Hid (cs.length = n) ∧ Hid (cs.take j = Word.bitsOf b j) ∧ wr.ownsRow w.heap.size 4 1 (.slice (some ⟨w.heap.size, 0, none⟩) n n) n (cs.map bitv) ∧ Below w.heap.size w wr) (fun iv _ => n - (intOf iv).toNat)
    case atStart => exact ⟨0, by omega, rfl, List.replicate n false, qh (by simp), qh rfl, by rw [List.map_replicate, ← toList_madeCells_one, Nat.mul_one] at *; exact hown1, hb1⟩
    case round =>
      clear hown1 hb1 hg1 w1 hc1 hs hL1 hql
      obtain ⟨j, hj, rfl, cs, HC, HT, hown, hbe⟩ := hrel
      have hzr := hbe.size
      by_cases hlt : j < n
      · have hq : j / 8 < b.length := by have := HLEN.out; omega
        obtain ⟨b2, o2, hA2, hc1⟩ := (hb.below hbe (zq _)) (j / 8) hq
        cases hA2
        have HB : Hid (Word.bitAt b j = decide ((b[j / 8]).toNat / 2 ^ (j % 8) % 2 = 1)) := qh (by unfold Word.bitAt; rw [List.getD_eq_getElem?_getD, List.getElem?_eq_getElem hq, Option.getD_some])
        have hx := (b[j / 8]).toNat_lt
        unfold u8v at hc1
        generalize (b[j / 8]).toNat = x at hc1 HB hx
        have hci := hown.cellAt j (by omega)
        have hfi := hown.frozenAt j
        rw [List.getElem?_map, List.getElem?_eq_getElem (by have := HC.out; omega), Option.map_some] at hci
        have hgl := (hown.lt w.heap.size rfl).2
        have hr8 : j % 8 < 8 := by omega
        have hbv := bit_val x (j % 8) hx
        rw [← HB.out] at hbv
        go_wp2
        have hst := (hown.stored j (.bool (Word.bitAt b j))).1
        rw [show (List.map bitv cs).set j (.bool (Word.bitAt b j)) = (cs.set j (Word.bitAt b j)).map bitv by rw [List.map_set]] at hst
        first | rw [hbv] | skip
        exact ⟨⟨j + 1, by omega, by simp, cs.set j (Word.bitAt b j), qh (by rw [List.length_set]; exact HC.out), qh (by rw [Word.take_set cs j _ (by have := HC.out; omega), HT.out, Word.bitsOf_succ]), hst, hbe.setCell (p := ⟨w.heap.size, j, none⟩) (zq _) _⟩, by simp [intOf]; omega⟩
      · obtain rfl : j = n := by omega
        have hcs : cs = Word.bitsOf b j := by have := HT.out; rwa [← HC.out, List.take_length, HC.out] at this
        rw [hcs] at hown
        go_wp2
        go_ret2
        obtain ⟨h1, h2, h3, h4⟩ := own_at hown
        exact BitsPost.some _ _ _ _ _ _ HI.out h1 h2 h4 hbe (fun b o s e _ => by cases e; exact zq _)

set_option maxRecDepth 100000 in
set_option maxHeartbeats 400000 in
theorem bits_any (A : Option Addr) (m c : Nat) (b : List UInt8) (N : Int) (hN : N ≤ 9223372036854775807) (hm : b.length = m) (hmc : m ≤ 20000) (w : World) (hb : Lies u8v w A b) :
    Calls Tryz.prog 81 #[.slice A m c, .int .i64 N] w (BitsPost w b N) := by
  by_cases h0 : N < 0
  · have HI : Hid (Word.isBitsI b N = false) := qh (by unfold Word.isBitsI; rw [decide_eq_false (by omega), Bool.false_and])
    clear hm hb
    go_enter Tryz.func81, Tryz.ntmps81
    go_wp2
    go_ret2
    exact BitsPost.none _ _ _ _ HI.out (Below.refl _ _)
  · obtain ⟨n, rfl⟩ := Int.eq_ofNat_of_zero_le (show 0 ≤ N by omega)
    cases hy : Word.isBits b n with
    | true => exact bits_yes A m c b n hm hmc hy w hb
    | false =>
      have HI : Hid (Word.isBitsI b n = false) := qh (by unfold Word.isBitsI; rw [Int.toNat_natCast, hy, Bool.and_false])
      subst hm
      by_cases hlen : b.length = (n + 7) / 8
      · have hn : n ≤ 160000 := by omega
        have hy2 : n % 8 ≠ 0 ∧ (b.getD (n / 8) 0).toNat / 2 ^ (n % 8) ≠ 0 := by
          unfold Word.isBits at hy
          rw [beq_iff_eq.2 hlen, Bool.true_and, Bool.or_eq_false_iff, beq_eq_false_iff_ne, beq_eq_false_iff_ne] at hy
          exact hy
        obtain ⟨h8, hy3⟩ := hy2
        have hte : ((b.length : Int) != ((n : Int) + 7) / 8) = false := by rw [bne_eq_false_iff_eq]; omega
        have h8' : ((n : Int) % 8 != 0) = true := by rw [bne_iff_ne]; omega
        obtain ⟨q, hq⟩ : ∃ q, n / 8 = q := ⟨_, rfl⟩
        have hql : q < b.length := by omega
        have hL1 : (b.length : Int) - 1 = (q : Int) := by omega
        rw [hq, List.getD_eq_getElem?_getD, List.getElem?_eq_getElem hql, Option.getD_some] at hy3
        obtain ⟨b1, o1, rfl, hc1⟩ := hb q hql
        have hs := shr_more _ _ hy3
        unfold u8v at hc1
        generalize b[q].toNat = x at hc1 hs
        clear h8 hlen hq hy3 hy
        go_enter Tryz.func81, Tryz.ntmps81
        go_wp2_with (go_at_call 130; refine (taken_any n (by omega) _).mono ?_; rintro e w' ⟨rfl, rfl⟩)
        go_ret2
        exact BitsPost.none _ _ _ _ HI.out (Below.refl _ _)
      · have hte : ((b.length : Int) != ((n : Int) + 7) / 8) = true := by rw [bne_iff_ne]; omega
        clear hlen hy hb
        go_enter Tryz.func81, Tryz.ntmps81
        go_wp2_with (go_at_call 130; refine (taken_any n (by omega) _).mono ?_; rintro e w' ⟨rfl, rfl⟩)
        go_ret2
        exact BitsPost.none _ _ _ _ HI.out (Below.refl _ _)
end Go.Proofs.YtlgmjnjhdamknaaGreat
