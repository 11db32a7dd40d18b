/-
  Slices of elements of several cells: laws over whatever program. 'CellsAt w A vs': behind the address A lie the cells vs.
-/
import Derived.Test.YtophchhienlafaaRow
namespace Go.Proofs.Ytophchhienlafaa
open Go.RowKit

abbrev CellsAt (w : World) (A : Option Addr) (vs : List Value) : Prop := Lies (fun v : Value => v) w A vs

theorem ownN_at {w : World} {B e k n c : Nat} {A : Option Addr} {vs : List Value} (h : w.ownsRow B e k (.slice A n c) n vs) : n ≤ c ∧ c ≤ maxLen ∧ vs.length = n * k ∧ CellsAt w A vs := by
  rcases h.2 with ⟨hv, h0⟩ | ⟨g, cap, cur, hv, _, hg, hnc, hm, hcs, htake⟩
  · cases hv
    have hl := h.1
    obtain rfl : vs = [] := List.eq_nil_of_length_eq_zero (by rw [hl, Nat.zero_mul])
    exact ⟨Nat.le_refl _, Nat.zero_le _, hl, Lies.nil _ _⟩
  · cases hv
    refine ⟨hnc, hm, h.1, Lies.of_row fun j hj => ?_⟩
    have := h.cellAt (g := g) (cap := c) j (by have := h.1; omega)
    rw [Nat.zero_add, this, List.getElem?_eq_getElem hj]

/-- What is known of the types: t a slice of e; an element of e is z, of k cells and so many bytes. -/
structure EKn (P : Program) (t e : TypeId) (z : Value) (k by_ : Nat) : Prop where
  ht : P.underlying t = some (.slice e)
  hi : (P.info? e).map (fun i => (i.zero, i.size, i.bytes)) = some (some z, k, by_)
  hz : z.cells.size = k
  hk : 0 < k
theorem infoN_parts {P : Program} {e : TypeId} {z : Value} {k by_ : Nat} (h : (P.info? e).map (fun i => (i.zero, i.size, i.bytes)) = some (some z, k, by_)) : ∃ i, P.info? e = some i ∧ i.zero = some z ∧ i.size = k ∧ i.bytes = by_ := by
  obtain ⟨i, hi, he⟩ := Option.map_eq_some_iff.1 h
  simp only [Prod.mk.injEq] at he
  exact ⟨i, hi, he.1, he.2.1, he.2.2⟩

section
variable {P : Program} {t e : TypeId} {z : Value} {k by_ : Nat}
theorem run_appendN_nothing (K : EKn P t e z k by_) (w : World) (ty : TypeId) (B : Nat) (v : Value) (n : Nat) (xs : List Value) (hown : w.ownsRow B e k v n xs) (c : Nat) :
    (Builtin.append_ #[t, t] ty #[v, .slice none 0 c]).run P w = .ok v w := by
  obtain ⟨i, hi, _, hs, _⟩ := infoN_parts K.hi
  rcases hown.2 with ⟨rfl, rfl⟩ | ⟨g, cap, cur, rfl, _, _, hnc, _⟩
  · simp [Builtin.append_, run_underlying K.ht, sizeOf, typeInfo, hi, Builtin.lenOf, Builtin.firstCells]
  · simp [Builtin.append_, run_underlying K.ht, sizeOf, typeInfo, hi, Builtin.lenOf, Builtin.firstCells, hnc, storeCells]

/-- append of what lies somewhere onto elements of the call's own. -/
theorem run_append_cells (K : EKn P t e z k by_) (w : World) (ty : TypeId) (B : Nat) (v : Value) (n : Nat) (xs : List Value) (hown : w.ownsRow B e k v n xs)
    (A : Option Addr) (m c : Nat) (ys : List Value) (hm : ys.length = m * k) (hy : CellsAt w A ys) (h1 : ∀ u ∈ ys, u.oneCell' = true) (h47 : (n + m) * by_ ≤ 140737488355328) (h48 : n + m ≤ maxLen) (hB : B ≤ w.heap.size) :
    ∃ A' c' w', (Builtin.append_ #[t, t] ty #[v, .slice A m c]).run P w = .ok (.slice A' (n + m) c') w' ∧ w'.ownsRow B e k (.slice A' (n + m) c') (n + m) (xs ++ ys) ∧ w.grownBy w' v.ownBlock ∧ Below B w w' ∧ ∀ g o s, A' = some ⟨g, o, s⟩ → v.ownBlock = some g ∨ g = w.heap.size := by
  obtain ⟨i, hi, hz, hs, hb⟩ := infoN_parts K.hi
  rcases A with _ | ad
  · obtain rfl : ys = [] := by
      rcases ys with _ | ⟨y, r⟩
      · rfl
      · obtain ⟨_, _, h, _⟩ := hy 0 (by simp)
        cases h
    have hk := K.hk
    obtain rfl : m = 0 := by
      rcases Nat.eq_zero_or_pos m with h | h
      · exact h
      · have := Nat.mul_le_mul h hk
        simp at hm
        omega
    obtain ⟨A', c', rfl⟩ : ∃ A' c', v = .slice A' n c' := by
      rcases hown.2 with ⟨rfl, rfl⟩ | ⟨g, cap, cur, rfl, _⟩
      · exact ⟨_, _, rfl⟩
      · exact ⟨_, _, rfl⟩
    exact ⟨A', c', w, run_appendN_nothing K w ty B _ n _ hown c, by simpa using hown, World.grownBy.refl w _, Below.refl _ _, fun g o s e => .inl (by rw [e]; rfl)⟩
  · have hnews : ∀ j u, ys[j]? = some u → w.cell? (ad.add j) = some u := by
      intro j u hu
      have hj : j < ys.length := by
        rcases Nat.lt_or_ge j ys.length with h | h
        · exact h
        · rw [List.getElem?_eq_none h] at hu; cases hu
      obtain ⟨b, off, h, _⟩ := hy j hj
      injection h with h
      subst h
      exact hy.cells_add j u (by simpa using hu)
    obtain ⟨v', w', hrun, h2, h3, _, hat⟩ := run_append_own_at (P := P) w B t ty e i _ k by_ K.ht hi hz hs hb K.hz K.hk v n xs hown ad m c ys hm hnews h1 h48 h47 hB
    have hbelow : Below B w w' := (Below.refl B w).grown h3 hB fun k hk => (hown.lt k hk).1
    rcases h2.2 with ⟨rfl, h0⟩ | ⟨g, cap, cur, rfl, _⟩
    · exact ⟨none, 0, w', by rw [h0]; exact hrun, by rw [h0] at h2 ⊢; exact h2, h3, hbelow, fun g o s e => by cases e⟩
    · refine ⟨some ⟨g, 0, none⟩, cap, w', hrun, h2, h3, hbelow, ?_⟩
      rintro g' o' s' e
      cases e
      rcases hat with hat | hat
      · exact .inl hat.symm
      · exact .inr (by cases hat; rfl)

theorem wpList_append_cells (K : EKn P t e z k by_) (w : World) {ops : Array Oper} {rest : List Oper} {o : Oper} {a : Act} {Q : Exit → Act → World → Prop} (hgd : o.guard = none) (s x : Operand)
    (ho : o.op = .call { callee := .builtin .append, args := #[s, x], argTypes := #[t, t] })
    (B : Nat) (v : Value) (n : Nat) (xs : List Value) (hs : a.eval s = v) (hown : w.ownsRow B e k v n xs)
    (A : Option Addr) (m c : Nat) (ys : List Value) (hx : a.eval x = .slice A m c) (hm : ys.length = m * k) (hy : CellsAt w A ys) (h1 : ∀ u ∈ ys, u.oneCell' = true) (h47 : (n + m) * by_ ≤ 140737488355328) (h48 : n + m ≤ maxLen) (hB : B ≤ w.heap.size)
    (h : ∀ A' c' w', w'.ownsRow B e k (.slice A' (n + m) c') (n + m) (xs ++ ys) → w.grownBy w' v.ownBlock → Below B w w' → (∀ g o s, A' = some ⟨g, o, s⟩ → v.ownBlock = some g ∨ g = w.heap.size) → wpList P ops Q rest (a.put o.dst (.slice A' (n + m) c')) w') : wpList P ops Q (o :: rest) a w := by
  obtain ⟨A', c', w', hrun, h2, h3, h4, h5⟩ := run_append_cells K w o.type B v n xs hown A m c ys hm hy h1 h47 h48 hB
  refine wpList_plain hgd fun _ hK => ?_
  unfold Oper.wp execOp
  simp only [ho, resolve, invoke, builtin, Sem.run_bind, Sem.run_pure, Result.andThen_ok, List.map_toArray, List.map_cons, List.map_nil, hs, hx, hrun]
  exact hK _ _ (h A' c' w' h2 h3 h4 h5)

theorem step_append_cells (K : EKn P t e z k by_) (w : World) {ops : Array Oper} {o : Oper} {a : Act} {K' : Act → World → Prop} {Q : Exit → Act → World → Prop} {E : Prop} (hgd : o.guard = none) (s x : Operand)
    (ho : o.op = .call { callee := .builtin .append, args := #[s, x], argTypes := #[t, t] })
    (B : Nat) (v : Value) (n : Nat) (xs : List Value) (hs : a.eval s = v) (hown : w.ownsRow B e k v n xs)
    (A : Option Addr) (m c : Nat) (ys : List Value) (hx : a.eval x = .slice A m c) (hm : ys.length = m * k) (hy : CellsAt w A ys) (h1 : ∀ u ∈ ys, u.oneCell' = true) (h47 : (n + m) * by_ ≤ 140737488355328) (h48 : n + m ≤ maxLen) (hB : B ≤ w.heap.size)
    (h : ∀ A' c' w', w'.ownsRow B e k (.slice A' (n + m) c') (n + m) (xs ++ ys) → w.grownBy w' v.ownBlock → Below B w w' → (∀ g o s, A' = some ⟨g, o, s⟩ → v.ownBlock = some g ∨ g = w.heap.size) → K' (a.put o.dst (.slice A' (n + m) c')) w') :
    if Region.wanted o (yielded ops a.tmps) = true then Oper.wp P o a w K' Q else E := by
  obtain ⟨A', c', w', hrun, h2, h3, h4, h5⟩ := run_append_cells K w o.type B v n xs hown A m c ys hm hy h1 h47 h48 hB
  rw [if_pos (by simp [Region.wanted, hgd])]
  unfold Oper.wp execOp
  simp only [ho, resolve, invoke, builtin, Sem.run_bind, Sem.run_pure, Result.andThen_ok, List.map_toArray, List.map_cons, List.map_nil, hs, hx, hrun]
  exact h A' c' w' h2 h3 h4 h5
end
end Go.Proofs.Ytophchhienlafaa
