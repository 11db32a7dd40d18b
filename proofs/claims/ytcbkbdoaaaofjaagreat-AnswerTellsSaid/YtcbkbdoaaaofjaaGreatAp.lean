
/-
  append onto bytes of the call's own, with where the new row lies; rows of the call's own beside one another.
-/
import Derived.Test.YtcbkbdoaaaofjaaGreatKit
namespace Go.Proofs.YtcbkbdoaaaofjaaGreat
open Go.RowKit

section
variable {P : Program} {t e : TypeId} {z : Value} {by_ : Nat} {α : Type} {f : α → Value}
/-- Where a row lies that an append leaves. -/
def Led (w : World) (v v' : Value) : Prop := ∀ g, v'.ownBlock = some g → v.ownBlock = some g ∨ g = w.heap.size
theorem run_append_led (K : EK P t e z by_) (hf : ∀ x, (f x).oneCell' = true) (w : World) (ty : TypeId) (B : Nat) (v : Value) (n : Nat) (xs : List α) (hown : w.ownsRow B e 1 v n (xs.map f))
    (A : Option Addr) (m c : Nat) (ys : List α) (hm : ys.length = m) (hy : Lies f w A ys) (h47 : (n + m) * by_ ≤ 140737488355328) (h48 : n + m ≤ maxLen) (hB : B ≤ w.heap.size) :
    ∃ A' c' w', (Builtin.append_ #[t, t] ty #[v, .slice A m c]).run P w = .ok (.slice A' (n + m) c') w' ∧ w'.ownsRow B e 1 (.slice A' (n + m) c') (n + m) ((xs ++ ys).map f) ∧ w.grownBy w' v.ownBlock ∧ Below B w w' ∧ Led w v (.slice A' (n + m) c') := by
  obtain ⟨i, hi, hz, hs, hb⟩ := info_parts K.hi
  have hbelow : ∀ w', w.grownBy w' v.ownBlock → Below B w w' := fun w' hg => (Below.refl B w).grown hg hB fun k hk => (hown.lt k hk).1
  rcases A with _ | ad
  · obtain rfl : ys = [] := by
      rcases ys with _ | ⟨y, r⟩
      · rfl
      · obtain ⟨_, _, h, _⟩ := hy 0 (by simp)
        cases h
    obtain rfl : m = 0 := by simpa using hm.symm
    obtain ⟨A', c', rfl, hl, _⟩ := own_lies hown
    exact ⟨A', c', w, run_append_nothing K w ty B _ n _ hown c, by simpa using hown, World.grownBy.refl w _, Below.refl _ _, fun g h => .inl h⟩
  · have hnews : ∀ j u, (ys.map f)[j]? = some u → w.cell? (ad.add j) = some u := by
      intro j u hu
      have hj : j < ys.length := by
        rcases Nat.lt_or_ge j ys.length with h | h
        · exact h
        · rw [List.getElem?_map, List.getElem?_eq_none h] at hu; cases hu
      obtain ⟨b, off, h, _⟩ := hy j hj
      injection h with h
      subst h
      exact hy.cells_add j u hu
    obtain ⟨v', w', hrun, h2, h3, _, h5⟩ := run_append_own_at (P := P) w B t ty e i _ 1 by_ K.ht hi hz hs hb K.hz (by omega) v n (xs.map f) hown ad m c (ys.map f) (by rw [List.length_map, hm, Nat.mul_one]) hnews (by intro u hu; obtain ⟨x, _, rfl⟩ := List.mem_map.1 hu; exact hf x)
      h48 h47 hB
    rw [← List.map_append] at h2
    obtain ⟨A', c', rfl, _⟩ := own_lies h2
    refine ⟨A', c', w', hrun, h2, h3, hbelow w' h3, fun g hg => ?_⟩
    rcases h5 with h5 | h5
    · left; rw [← h5]; exact hg
    · right; rw [h5] at hg; exact (Option.some.inj hg).symm

theorem wpList_append_led (K : EK P t e z by_) (hf : ∀ x, (f x).oneCell' = true) (w : World) {ops : Array Oper} {rest : List Oper} {o : Oper} {a : Act} {Q : Exit → Act → World → Prop} (hgd : o.guard = none) (s x : Operand)
    (ho : o.op = .call { callee := .builtin .append, args := #[s, x], argTypes := #[t, t] })
    (B : Nat) (v : Value) (n : Nat) (xs : List α) (hs : a.eval s = v) (hown : w.ownsRow B e 1 v n (xs.map f))
    (A : Option Addr) (m c : Nat) (ys : List α) (hx : a.eval x = .slice A m c) (hm : ys.length = m) (hy : Lies f w A ys) (h47 : (n + m) * by_ ≤ 140737488355328) (h48 : n + m ≤ maxLen) (hB : B ≤ w.heap.size)
    (h : ∀ A' c' w', w'.ownsRow B e 1 (.slice A' (n + m) c') (n + m) ((xs ++ ys).map f) → w.grownBy w' v.ownBlock → Below B w w' → Led w v (.slice A' (n + m) c') → wpList P ops Q rest (a.put o.dst (.slice A' (n + m) c')) w') : wpList P ops Q (o :: rest) a w := by
  obtain ⟨A', c', w', hrun, h2, h3, h4, h5⟩ := run_append_led K hf w o.type B v n xs hown A m c ys hm hy h47 h48 hB
  refine wpList_plain hgd fun _ hK => ?_
  unfold Oper.wp execOp
  simp only [ho, resolve, invoke, builtin, Sem.run_bind, Sem.run_pure, Result.andThen_ok, List.map_toArray, List.map_cons, List.map_nil, hs, hx, hrun]
  exact hK _ _ (h A' c' w' h2 h3 h4 h5)

theorem step_append_led (K : EK P t e z by_) (hf : ∀ x, (f x).oneCell' = true) (w : World) {ops : Array Oper} {o : Oper} {a : Act} {K' : Act → World → Prop} {Q : Exit → Act → World → Prop} {E : Prop} (hgd : o.guard = none) (s x : Operand)
    (ho : o.op = .call { callee := .builtin .append, args := #[s, x], argTypes := #[t, t] })
    (B : Nat) (v : Value) (n : Nat) (xs : List α) (hs : a.eval s = v) (hown : w.ownsRow B e 1 v n (xs.map f))
    (A : Option Addr) (m c : Nat) (ys : List α) (hx : a.eval x = .slice A m c) (hm : ys.length = m) (hy : Lies f w A ys) (h47 : (n + m) * by_ ≤ 140737488355328) (h48 : n + m ≤ maxLen) (hB : B ≤ w.heap.size)
    (h : ∀ A' c' w', w'.ownsRow B e 1 (.slice A' (n + m) c') (n + m) ((xs ++ ys).map f) → w.grownBy w' v.ownBlock → Below B w w' → Led w v (.slice A' (n + m) c') → K' (a.put o.dst (.slice A' (n + m) c')) w') :
    if Region.wanted o (yielded ops a.tmps) = true then Oper.wp P o a w K' Q else E := by
  obtain ⟨A', c', w', hrun, h2, h3, h4, h5⟩ := run_append_led K hf w o.type B v n xs hown A m c ys hm hy h47 h48 hB
  rw [if_pos (by simp [Region.wanted, hgd])]
  unfold Oper.wp execOp
  simp only [ho, resolve, invoke, builtin, Sem.run_bind, Sem.run_pure, Result.andThen_ok, List.map_toArray, List.map_cons, List.map_nil, hs, hx, hrun]
  exact h A' c' w' h2 h3 h4 h5
end

/-- A slice whose row lies outside [lo, hi). -/
def Off (lo hi : Nat) (v : Value) : Prop := ∀ g, v.ownBlock = some g → g < lo ∨ hi ≤ g
/-- .. inside. -/
def Ins (lo hi : Nat) (v : Value) : Prop := ∀ g, v.ownBlock = some g → lo ≤ g ∧ g < hi
theorem Led.off {lo hi : Nat} {w : World} {v v' : Value} (h : Led w v v') (ho : Off lo hi v) (hw : hi ≤ w.heap.size) : Off lo hi v' := by
  intro g hg
  rcases h g hg with h1 | h1
  · exact ho g h1
  · right; omega
theorem own_off {w : World} {B e k n : Nat} {v : Value} {xs : List Value} {lo hi : Nat} (h : w.ownsRow B e k v n xs) (hl : w.heap.size ≤ lo) : Off lo hi v := fun g hg => .inl (Nat.lt_of_lt_of_le (h.lt g hg).2 hl)
theorem own_ins {w : World} {B e k n : Nat} {v : Value} {xs : List Value} {hi : Nat} (h : w.ownsRow B e k v n xs) (hh : w.heap.size ≤ hi) : Ins B hi v := fun g hg => ⟨(h.lt g hg).1, Nat.lt_of_lt_of_le (h.lt g hg).2 hh⟩
/-- A row beside the one that grows stays as it is. -/
theorem own_beside {w w' : World} {B e k n : Nat} {v v2 : Value} {xs : List Value} {lo hi : Nat} (h : w.ownsRow B e k v n xs) (hg : w.grownBy w' v2.ownBlock) (hi' : Ins lo hi v) (ho : Off lo hi v2) : w'.ownsRow B e k v n xs := by
  refine h.kept hg ?_
  cases hv : v.ownBlock with
  | none => exact .inl rfl
  | some g =>
    right
    intro e
    have h1 := hi' g hv
    have h2 := ho g (by rw [← e])
    omega
theorem own_src {w : World} {B e n c : Nat} {A : Option Addr} {l : List UInt8} (h : w.ownsRow B e 1 (.slice A n c) n (l.map u8v)) : l.length = n ∧ Lies u8v w A l := ⟨(own_at h).2.2.1, (own_at h).2.2.2⟩
end Go.Proofs.YtcbkbdoaaaofjaaGreat
