
/-
  Answers: a string made bytes at a step; texts laid, step by step.
-/
import Derived.Test.YtcbkbdoaaaofjaaGreatTx
import Derived.Laws.IdiomStrings
import Derived.Deep.RegionHeld3
namespace Go.Proofs.YtcbkbdoaaaofjaaGreat
open Go.RowKit

section
variable {P : Program}
/-- '[]byte(s)' at a step of a region that draws its order. -/
theorem step_conv (w : World) (src dst e : TypeId) (s : ByteArray) (hs : P.underlying src = some .string) (hd : P.underlying dst = some (.slice e)) (he : P.underlying e = some (.int .u8))
    {ops : Array Oper} {o : Oper} {a : Act} {K' : Act → World → Prop} {Q : Exit → Act → World → Prop} {E : Prop} (hgd : o.guard = none) (x : Operand) (ho : o.op = .convert src dst x) (hx : a.eval x = .string s)
    (h : ∀ c' w', s.size ≤ c' → c' ≤ maxLen → Lies u8v w' (some ⟨w.heap.size, 0, none⟩) s.data.toList → Below w.heap.size w w' → w'.heap.size = w.heap.size + 1 → K' (a.put o.dst (.slice (some ⟨w.heap.size, 0, none⟩) s.size c')) w') (hsz : s.size ≤ 1000) :
    if Region.wanted o (yielded ops a.tmps) = true then Oper.wp P o a w K' Q else E := by
  rw [if_pos (by simp [Region.wanted, hgd])]
  have hrun := run_bytes_of_string (P := P) w src dst e s hs hd he
  have hG := grownCap_ge w s.size 0 e
  have hG2 := grownCap_le_maxLen w s.size 0 e (by unfold maxLen; omega)
  generalize grownCap w s.size 0 e = G at *
  unfold Oper.wp
  simp [execOp, ho, hx, hrun, Result.andThen]
  refine h G _ hG hG2 ?_ ((drewN_below (Below.refl _ w) 1).alloc (Nat.le_refl _) _) (by simp)
  refine Lies.of_row fun j hj => ?_
  show (w.drew.alloc _).cell? ⟨w.drew.heap.size, 0 + j, none⟩ = _
  rw [cell_of_row _ _ _ _ _ _ (heap_alloc_new w.drew _)]
  unfold bytesRow
  have hj' : j < s.data.size := by rw [← Array.length_toList]; exact hj
  rw [Nat.zero_add, Array.getElem?_append_left (by simpa using hj')]
  simp
  exact ⟨_, Array.getElem?_eq_getElem hj', rfl⟩
end-- AT43
theorem upon_conv {P : Program} (w : World) (src dst e : TypeId) (s : ByteArray) (hs : P.underlying src = some .string) (hd : P.underlying dst = some (.slice e)) (he : P.underlying e = some (.int .u8))
    {o : Oper} {a : Act} {K : Act → World → Prop} {Q : Exit → Act → World → Prop} (hsz : s.size ≤ 1000)
    (h : ∀ c' w', s.size ≤ c' → c' ≤ maxLen → Lies u8v w' (some ⟨w.heap.size, 0, none⟩) s.data.toList → Below w.heap.size w w' → w'.heap.size = w.heap.size + 1 → K (a.put o.dst (.slice (some ⟨w.heap.size, 0, none⟩) s.size c')) w') :
    Oper.upon P o a K Q ((Sem.run P (convert src dst (strv s)) w).andThen fun a w' => .ok (.value a) w') := by
  have hrun := run_bytes_of_string (P := P) w src dst e s hs hd he
  have hG := grownCap_ge w s.size 0 e
  have hG2 := grownCap_le_maxLen w s.size 0 e (by unfold maxLen; omega)
  generalize grownCap w s.size 0 e = G at *
  rw [show Sem.run P (convert src dst (strv s)) w = _ from hrun]
  refine h G _ hG hG2 ?_ ((drewN_below (Below.refl _ w) 1).alloc (Nat.le_refl _) _) (by simp)
  refine Lies.of_row fun j hj => ?_
  show (w.drew.alloc _).cell? ⟨w.drew.heap.size, 0 + j, none⟩ = _
  rw [cell_of_row _ _ _ _ _ _ (heap_alloc_new w.drew _)]
  unfold bytesRow
  have hj' : j < s.data.size := by rw [← Array.length_toList]; exact hj
  rw [Nat.zero_add, Array.getElem?_append_left (by simpa using hj')]
  simp
  exact ⟨_, Array.getElem?_eq_getElem hj', rfl⟩
theorem lies_grown {α : Type} {f : α → Value} {w w' : World} {A : Option Addr} {n c g G : Nat} {l : List α} (h : Lies f w (some ⟨g, 0, none⟩) l) (hg : w.grownBy w' (Value.slice A n c).ownBlock) (hlt : ∀ b o s, A = some ⟨b, o, s⟩ → b < G) (hG : G ≤ g) (hs : g < w.heap.size) : Lies f w' (some ⟨g, 0, none⟩) l := by
  have hne : some g ≠ (Value.slice A n c).ownBlock := by
    rcases A with _ | ⟨b, o, s⟩
    · simp [Value.ownBlock]
    · have h1 := hlt b o s rfl
      simp only [Value.ownBlock]
      intro e
      have h2 : g = b := by simpa using e
      exact absurd h2 (by omega)
  refine Lies.of_row fun j hj => ?_
  exact (World.cell?_of_block (w := w) (w' := w') (a := ⟨g, 0 + j, none⟩) (hg.block g hs hne)).trans (h.row j hj)
theorem laid_append (m l : List ByteArray) : ∀ i, (An.laid i (l ++ m)).length = (An.laid i l).length + (An.laid (i + l.length) m).length := by
  induction l with
  | nil => intro i; simp [An.laid]
  | cons t r ih => intro i; have h1 := ih (i + 1); rw [show i + (t :: r).length = i + 1 + r.length from by simp; omega]; simp [An.laid] at *; omega
theorem laid_two (l : List ByteArray) : ∀ i, 2 * l.length ≤ (An.laid i l).length := by
  induction l with
  | nil => intro i; simp [An.laid]
  | cons t r ih => intro i; have h1 := ih (i + 1); simp [An.laid] at *; omega
theorem laid_snoc (s : ByteArray) (l : List ByteArray) : ∀ i, An.laid i (l ++ [s]) = An.laid i l ++ (An.b1 (i + l.length) :: An.b1 s.size :: s.data.toList) := by
  induction l with
  | nil => intro i; simp [An.laid]
  | cons t r ih => intro i; simp [An.laid, ih, Nat.add_assoc, Nat.add_comm 1]
theorem laid_step {l : List ByteArray} {j : Nat} (h : j < l.length) (i : Nat) : An.laid i (l.take (j + 1)) = An.laid i (l.take j) ++ (An.b1 (i + j) :: An.b1 l[j].size :: l[j].data.toList) := by
  rw [List.take_succ_eq_append_getElem h, laid_snoc, List.length_take, Nat.min_eq_left (Nat.le_of_lt h)]
end Go.Proofs.YtcbkbdoaaaofjaaGreat
