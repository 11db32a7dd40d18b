/-
  An append onto cells of the call's own leaves what lay there.
-/
import Derived.Test.YthpemcnjdgjlaaaRow
namespace Go.Proofs.Ythpemcnjdgjlaaa
open Go.RowKit

section
variable {P : Program} {t e : TypeId} {z : Value} {by_ : Nat} {α : Type} {f : α → Value}
theorem append_keeps (K : EK P t e z by_) (hf : ∀ x, (f x).oneCell' = true) (w : World) (ty : TypeId) (B : Nat) (A0 : Option Addr) (n c0 : Nat) (xs : List α) (hown : w.ownsRow B e 1 (.slice A0 n c0) n (xs.map f))
    (A : Option Addr) (m c : Nat) (ys : List α) (hm : ys.length = m) (hy : Lies f w A ys) (h47 : (n + m) * by_ ≤ 140737488355328) (h48 : n + m ≤ maxLen) {v' : Value} {w' : World}
    (hrun : (Builtin.append_ #[t, t] ty #[.slice A0 n c0, .slice A m c]).run P w = .ok v' w') (hown' : w'.ownsRow B e 1 v' (n + m) ((xs ++ ys).map f)) : Lies f w' A0 xs := by
  obtain ⟨i, hi, hz, hs, hb⟩ := info_parts K.hi
  obtain ⟨_, _, hl, hx⟩ := own_at hown
  rcases A with _ | ad
  · obtain rfl : ys = [] := by
      rcases ys with _ | ⟨y, r⟩
      · rfl
      · obtain ⟨_, _, h, _⟩ := hy 0 (by simp)
        cases h
    obtain rfl : m = 0 := by simpa using hm.symm
    rw [run_append_nothing K w ty B _ n _ hown c] at hrun
    injection hrun with _ hw
    subst hw
    exact hx
  · have hnews : ∀ j u, (ys.map f)[j]? = some u → w.cell? (ad.add j) = some u := by
      intro j u hu
      have hj : j < ys.length := by
        rcases Nat.lt_or_ge j ys.length with h | h
        · exact h
        · rw [List.getElem?_map, List.getElem?_eq_none h] at hu; cases hu
      obtain ⟨b, off, h, _⟩ := hy j hj
      injection h with h
      subst h
      exact hy.cells_add j u hu
    have hlen : (ys.map f).length = m * i.size := by rw [List.length_map, hm, hs, Nat.mul_one]
    have hone : ∀ u ∈ ys.map f, u.oneCell' = true := by intro u hu; obtain ⟨x, _, rfl⟩ := List.mem_map.1 hu; exact hf x
    have hsz : i.size = 1 := hs
    rcases hown.2 with ⟨h0, hn0⟩ | ⟨g, cap, cur, h0, hbg, hg, hnc, hcm, hcs, htake⟩
    · obtain rfl : xs = [] := List.eq_nil_of_length_eq_zero (by omega)
      exact Lies.nil _ _
    · cases h0
      by_cases hroom : n + m ≤ c0
      · have hr := run_append_room (P := P) w t ty e i K.ht hi g n c0 cur hg ad m c (ys.map f) hlen hnews hone hroom (by rw [hlen, hsz, hcs]; omega)
        rw [hr] at hrun
        injection hrun with hv _
        rw [← hv] at hown'
        have := (own_at hown').2.2.2.take n
        rwa [List.take_left' hl] at this
      · have holds : ∀ j u, (xs.map f)[j]? = some u → w.cell? ((⟨g, 0, none⟩ : Addr).add j) = some u := hown.cells (g := g) rfl
        have hr := run_append_grow (P := P) w t ty e i z K.ht hi hz ⟨g, 0, none⟩ n c0 (xs.map f) (by rw [hown.1, hsz]) holds ad m c (ys.map f) hlen hnews (by omega) (by simp only [maxLen] at h48; omega) (by rw [hb]; exact growslice_fits (by omega) h47)
        rw [hr] at hrun
        injection hrun with _ hw
        subst hw
        exact hx.below ((drewN_below (Below.refl _ w) 1).alloc (Nat.le_refl _) _) (Nat.le_refl _)
theorem wpList_append_kept (K : EK P t e z by_) (hf : ∀ x, (f x).oneCell' = true) (w : World) {ops : Array Oper} {rest : List Oper} {o : Oper} {a : Act} {Q : Exit → Act → World → Prop} (hgd : o.guard = none) (s x : Operand)
    (ho : o.op = .call { callee := .builtin .append, args := #[s, x], argTypes := #[t, t] })
    (B : Nat) (A0 : Option Addr) (n c0 : Nat) (xs : List α) (hs : a.eval s = .slice A0 n c0) (hown : w.ownsRow B e 1 (.slice A0 n c0) n (xs.map f))
    (A : Option Addr) (m c : Nat) (ys : List α) (hx : a.eval x = .slice A m c) (hm : ys.length = m) (hy : Lies f w A ys) (h47 : (n + m) * by_ ≤ 140737488355328) (h48 : n + m ≤ maxLen) (hB : B ≤ w.heap.size)
    (h : ∀ A' c' w', w'.ownsRow B e 1 (.slice A' (n + m) c') (n + m) ((xs ++ ys).map f) → Lies f w' A0 xs → Below B w w' → wpList P ops Q rest (a.put o.dst (.slice A' (n + m) c')) w') : wpList P ops Q (o :: rest) a w := by
  obtain ⟨A', c', w', hrun, h2, h3, h4⟩ := run_append_lies K hf w o.type B _ n xs hown A m c ys hm hy h47 h48 hB
  refine wpList_plain hgd fun _ hK => ?_
  unfold Oper.wp execOp
  simp only [ho, resolve, invoke, builtin, Sem.run_bind, Sem.run_pure, Result.andThen_ok, List.map_toArray, List.map_cons, List.map_nil, hs, hx, hrun]
  exact hK _ _ (h A' c' w' h2 (append_keeps K hf w o.type B A0 n c0 xs hown A m c ys hm hy h47 h48 hrun h2) h4)
end
end Go.Proofs.Ythpemcnjdgjlaaa
