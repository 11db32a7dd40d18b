
/-
  Slices of cells of one kind: words and laws over whatever program. 'Lies f w A l': behind the address A lie the values f x of the list l.
-/
import Derived.Below
import Derived.Maps.AppendAt
import Derived.Deep.AppendLies
import Derived.Deep.Draws
import Derived.OwnWalk
import Derived.OwnWalkIn
import Derived.Laws.Rows
import Derived.Laws.BytesArg
namespace Go.Proofs.YtcbkbdoaaaofjaaGreat
open Go.RowKit

theorem drewN_below {B : Nat} {a w : World} (h : Below B a w) (n : Nat) : Below B a (w.drewN n) := ⟨h.os, h.tape, h.output, h.size, h.block⟩

/-- A byte, a word, a bit as cells. -/
abbrev u8v (x : UInt8) : Value := .int .u8 (x.toNat : Int)
abbrev u16v (x : UInt16) : Value := .int .u16 (x.toNat : Int)
abbrev bitv (x : Bool) : Value := .bool x

/-- Behind the address A lie the values of l (where there is none: whatever A). -/
def Lies {α : Type} (f : α → Value) (w : World) (A : Option Addr) (l : List α) : Prop :=
  ∀ j (h : j < l.length), ∃ b off, A = some ⟨b, off, none⟩ ∧ w.cell? ⟨b, off + j, none⟩ = some (f l[j])

section
variable {α : Type} {f : α → Value} {w w' : World} {A : Option Addr} {l : List α}
theorem Lies.nil (w : World) (A : Option Addr) : Lies f w A [] := fun j h => absurd h (by simp)
theorem Lies.keep (h : Lies f w A l) (hk : ∀ (p : Addr) (v : Value), w.cell? p = some v → w'.cell? p = some v) : Lies f w' A l := fun j hj => by
  obtain ⟨b, off, e, hc⟩ := h j hj
  exact ⟨b, off, e, hk _ _ hc⟩
theorem Lies.below {B : Nat} (h : Lies f w A l) (hb : Below B w w') (hB : w.heap.size ≤ B) : Lies f w' A l :=
  h.keep fun p _ hc => (hb.cell (p := p) (Nat.lt_of_lt_of_le (World.block_lt_of_cell? w p hc) hB)).trans hc
theorem Lies.drewN (h : Lies f w A l) (n : Nat) : Lies f (w.drewN n) A l := h
theorem Lies.drew (h : Lies f w A l) : Lies f w.drew A l := h
theorem Lies.alloc (h : Lies f w A l) (o : Obj) : Lies f (w.alloc o) A l := h.below ((Below.refl _ _).alloc (Nat.le_refl _) o) (Nat.le_refl _)
/-- In one form, where there is at least one. -/
theorem Lies.at_ (h : Lies f w A l) (h0 : 0 < l.length) : ∃ b off, A = some ⟨b, off, none⟩ ∧ b < w.heap.size ∧ ∀ j (hj : j < l.length), w.cell? ⟨b, off + j, none⟩ = some (f l[j]) := by
  obtain ⟨b, off, e, hc0⟩ := h 0 h0
  refine ⟨b, off, e, World.block_lt_of_cell? w _ hc0, fun j hj => ?_⟩
  obtain ⟨b', off', e', hc⟩ := h j hj
  rw [e] at e'
  simp only [Option.some.injEq, Addr.mk.injEq, and_true] at e'
  obtain ⟨rfl, rfl⟩ := e'
  exact hc
theorem Lies.of_row {b off : Nat} (h : ∀ j (hj : j < l.length), w.cell? ⟨b, off + j, none⟩ = some (f l[j])) : Lies f w (some ⟨b, off, none⟩) l :=
  fun j hj => ⟨b, off, rfl, h j hj⟩
theorem Lies.row {b off : Nat} (h : Lies f w (some ⟨b, off, none⟩) l) : ∀ j (hj : j < l.length), w.cell? ⟨b, off + j, none⟩ = some (f l[j]) := by
  intro j hj
  obtain ⟨b', off', e', hc⟩ := h j hj
  simp only [Option.some.injEq, Addr.mk.injEq, and_true] at e'
  obtain ⟨rfl, rfl⟩ := e'
  exact hc
theorem Lies.take (h : Lies f w A l) (n : Nat) : Lies f w A (l.take n) := fun j hj => by
  have h1 : j < l.length := by rw [List.length_take] at hj; omega
  obtain ⟨b, off, e, hc⟩ := h j h1
  refine ⟨b, off, e, ?_⟩
  rw [List.getElem_take]
  exact hc
theorem Lies.drop {b off : Nat} (h : Lies f w (some ⟨b, off, none⟩) l) (n : Nat) : Lies f w (some ⟨b, off + n, none⟩) (l.drop n) := Lies.of_row fun j hj => by
  rw [List.length_drop] at hj
  rw [List.getElem_drop, Nat.add_assoc]
  exact h.row (n + j) (by omega)
theorem Lies.cells_add {b off : Nat} (h : Lies f w (some ⟨b, off, none⟩) l) : ∀ j u, (l.map f)[j]? = some u → w.cell? ((⟨b, off, none⟩ : Addr).add j) = some u := by
  intro j u hu
  rw [List.getElem?_map] at hu
  obtain ⟨x, hx, rfl⟩ := Option.map_eq_some_iff.1 hu
  obtain ⟨hj, rfl⟩ := List.getElem?_eq_some_iff.1 hx
  have hadd : (⟨b, off, none⟩ : Addr).add j = ⟨b, off + j, none⟩ := by unfold Addr.add; split <;> simp_all
  rw [hadd]
  exact h.row j hj
/-- What the call owns reads so. -/
theorem own_lies {B e n : Nat} {v : Value} (h : w.ownsRow B e 1 v n (l.map f)) : ∃ A c, v = .slice A n c ∧ l.length = n ∧ n ≤ c ∧ c ≤ maxLen ∧ Lies f w A l := by
  have hl : l.length = n := by have := h.1; rw [List.length_map] at this; omega
  rcases h.2 with ⟨rfl, rfl⟩ | ⟨g, cap, cur, rfl, _, hg, hnc, hm, hcs, htake⟩
  · obtain rfl : l = [] := List.eq_nil_of_length_eq_zero hl
    exact ⟨none, 0, rfl, hl, Nat.le_refl _, Nat.zero_le _, Lies.nil _ _⟩
  · refine ⟨some ⟨g, 0, none⟩, cap, rfl, hl, hnc, hm, Lies.of_row fun j hj => ?_⟩
    have := h.cellAt (g := g) (cap := cap) j (by omega)
    rw [Nat.zero_add, this, List.getElem?_map, List.getElem?_eq_getElem hj]
    rfl
theorem own_at {B e n c : Nat} {A : Option Addr} (h : w.ownsRow B e 1 (.slice A n c) n (l.map f)) : n ≤ c ∧ c ≤ maxLen ∧ l.length = n ∧ Lies f w A l := by
  obtain ⟨A', c', hv, h1, h2, h3, h4⟩ := own_lies h
  simp only [Value.slice.injEq, true_and] at hv
  obtain ⟨rfl, rfl⟩ := hv
  exact ⟨h2, h3, h1, h4⟩
theorem lies_new (w : World) (cs : Array Value) (e : TypeId) (l : List α) (h : cs.toList = l.map f) (fr : Nat × Nat := (0, 0)) : Lies f (w.alloc (.cells cs e fr)) (some ⟨w.heap.size, 0, none⟩) l :=
  Lies.of_row fun j hj => by
    rw [cell_of_row (w.alloc (.cells cs e fr)) w.heap.size (0 + j) cs e fr (heap_alloc_new w _), Nat.zero_add, ← Array.getElem?_toList, h, List.getElem?_map, List.getElem?_eq_getElem hj]
    rfl
end

/-- A store into another block. -/
theorem Lies.setCell_far {α : Type} {f : α → Value} {w : World} {b off g : Nat} {l : List α} (h : Lies f w (some ⟨b, off, none⟩) l) (hne : b ≠ g) (k : Nat) (u : Value) : Lies f (w.setCell ⟨g, k, none⟩ u) (some ⟨b, off, none⟩) l :=
  Lies.of_row fun j hj => by
    have := h.row j hj
    rw [← this]
    simp only [World.cell?, World.setCell]
    rw [Array.getElem?_modify, if_neg (fun e => hne e.symm)]
/-- A literal slice: what the call owns. -/
theorem own_lit {α : Type} (f : α → Value) (w : World) (cs : Array Value) (e : TypeId) (B g n : Nat) (xs : List α) (h : cs.toList = xs.map f) (hn : xs.length = n) (hB : B ≤ w.heap.size) (hg : w.heap.size = g) (hm : n ≤ maxLen) :
    (w.alloc (.cells cs e)).ownsRow B e 1 (.slice (some ⟨g, 0, none⟩) n n) n (xs.map f) := by
  subst hg
  rw [← h]
  exact World.ownsRow_lit w cs n hB hm (by rw [← Array.length_toList, h, List.length_map, hn, Nat.mul_one])
theorem lies_at {α : Type} {f : α → Value} (w : World) (cs : Array Value) (e : TypeId) (g : Nat) (l : List α) (h : cs.toList = l.map f) (hg : w.heap.size = g) : Lies f (w.alloc (.cells cs e)) (some ⟨g, 0, none⟩) l := by
  subst hg
  exact lies_new w cs e l h

/-- What is known of the types: t a slice of e; a cell of e is z, of so many bytes. -/
structure EK (P : Program) (t e : TypeId) (z : Value) (by_ : Nat) : Prop where
  ht : P.underlying t = some (.slice e)
  hi : (P.info? e).map (fun i => (i.zero, i.size, i.bytes)) = some (some z, 1, by_)
  hz : z.cells.size = 1

section
variable {P : Program} {t e : TypeId} {z : Value} {by_ : Nat} {α : Type} {f : α → Value}
/-- append of nothing. -/
theorem run_append_nothing (K : EK P t e z by_) (w : World) (ty : TypeId) (B : Nat) (v : Value) (n : Nat) (xs : List Value) (hown : w.ownsRow B e 1 v n xs) (c : Nat) :
    (Builtin.append_ #[t, t] ty #[v, .slice none 0 c]).run P w = .ok v w := by
  obtain ⟨i, hi, _, hs, _⟩ := info_parts K.hi
  rcases hown.2 with ⟨rfl, rfl⟩ | ⟨g, cap, cur, rfl, _, _, hnc, _⟩
  · simp [Builtin.append_, run_underlying K.ht, sizeOf, typeInfo, hi, Builtin.lenOf, Builtin.firstCells]
  · simp [Builtin.append_, run_underlying K.ht, sizeOf, typeInfo, hi, Builtin.lenOf, Builtin.firstCells, hnc, storeCells]

/-- append of what lies somewhere onto cells of the call's own. -/
theorem run_append_lies (K : EK P t e z by_) (hf : ∀ x, (f x).oneCell' = true) (w : World) (ty : TypeId) (B : Nat) (v : Value) (n : Nat) (xs : List α) (hown : w.ownsRow B e 1 v n (xs.map f))
    (A : Option Addr) (m c : Nat) (ys : List α) (hm : ys.length = m) (hy : Lies f w A ys) (h47 : (n + m) * by_ ≤ 140737488355328) (h48 : n + m ≤ maxLen) (hB : B ≤ w.heap.size) :
    ∃ A' c' w', (Builtin.append_ #[t, t] ty #[v, .slice A m c]).run P w = .ok (.slice A' (n + m) c') w' ∧ w'.ownsRow B e 1 (.slice A' (n + m) c') (n + m) ((xs ++ ys).map f) ∧ w.grownBy w' v.ownBlock ∧ Below B w w' := by
  obtain ⟨i, hi, hz, hs, hb⟩ := info_parts K.hi
  have hbelow : ∀ w', w.grownBy w' v.ownBlock → Below B w w' := fun w' hg => (Below.refl B w).grown hg hB fun k hk => (hown.lt k hk).1
  rcases A with _ | ad
  · obtain rfl : ys = [] := by
      rcases ys with _ | ⟨y, r⟩
      · rfl
      · obtain ⟨_, _, h, _⟩ := hy 0 (by simp)
        cases h
    obtain rfl : m = 0 := by simpa using hm.symm
    obtain ⟨A', c', rfl, hl, _⟩ := own_lies hown
    exact ⟨A', c', w, run_append_nothing K w ty B _ n _ hown c, by simpa using hown, World.grownBy.refl w _, Below.refl _ _⟩
  · have hnews : ∀ j u, (ys.map f)[j]? = some u → w.cell? (ad.add j) = some u := by
      intro j u hu
      have hj : j < ys.length := by
        rcases Nat.lt_or_ge j ys.length with h | h
        · exact h
        · rw [List.getElem?_map, List.getElem?_eq_none h] at hu; cases hu
      obtain ⟨b, off, h, _⟩ := hy j hj
      injection h with h
      subst h
      exact hy.cells_add j u hu
    obtain ⟨v', w', hrun, h2, h3, _, _⟩ := run_append_own_at (P := P) w B t ty e i _ 1 by_ K.ht hi hz hs hb K.hz (by omega) v n (xs.map f) hown ad m c (ys.map f) (by rw [List.length_map, hm, Nat.mul_one]) hnews (by intro u hu; obtain ⟨x, _, rfl⟩ := List.mem_map.1 hu; exact hf x)
      h48 h47 hB
    rw [← List.map_append] at h2
    obtain ⟨A', c', rfl, _⟩ := own_lies h2
    exact ⟨A', c', w', hrun, h2, h3, hbelow w' h3⟩

theorem wpList_append_lies (K : EK P t e z by_) (hf : ∀ x, (f x).oneCell' = true) (w : World) {ops : Array Oper} {rest : List Oper} {o : Oper} {a : Act} {Q : Exit → Act → World → Prop} (hgd : o.guard = none) (s x : Operand)
    (ho : o.op = .call { callee := .builtin .append, args := #[s, x], argTypes := #[t, t] })
    (B : Nat) (v : Value) (n : Nat) (xs : List α) (hs : a.eval s = v) (hown : w.ownsRow B e 1 v n (xs.map f))
    (A : Option Addr) (m c : Nat) (ys : List α) (hx : a.eval x = .slice A m c) (hm : ys.length = m) (hy : Lies f w A ys) (h47 : (n + m) * by_ ≤ 140737488355328) (h48 : n + m ≤ maxLen) (hB : B ≤ w.heap.size)
    (h : ∀ A' c' w', w'.ownsRow B e 1 (.slice A' (n + m) c') (n + m) ((xs ++ ys).map f) → w.grownBy w' v.ownBlock → Below B w w' → wpList P ops Q rest (a.put o.dst (.slice A' (n + m) c')) w') : wpList P ops Q (o :: rest) a w := by
  obtain ⟨A', c', w', hrun, h2, h3, h4⟩ := run_append_lies K hf w o.type B v n xs hown A m c ys hm hy h47 h48 hB
  refine wpList_plain hgd fun _ hK => ?_
  unfold Oper.wp execOp
  simp only [ho, resolve, invoke, builtin, Sem.run_bind, Sem.run_pure, Result.andThen_ok, List.map_toArray, List.map_cons, List.map_nil, hs, hx, hrun]
  exact hK _ _ (h A' c' w' h2 h3 h4)

theorem wpListIn_append_lies {F : Fence} {d : Nat} (K : EK P t e z by_) (hf : ∀ x, (f x).oneCell' = true) (w : World) {ops : Array Oper} {rest : List Oper} {o : Oper} {a : Act} {Q : Exit → Act → World → Prop} (hgd : o.guard = none) (s x : Operand)
    (ho : o.op = .call { callee := .builtin .append, args := #[s, x], argTypes := #[t, t] })
    (B : Nat) (v : Value) (n : Nat) (xs : List α) (hs : a.eval s = v) (hown : w.ownsRow B e 1 v n (xs.map f))
    (A : Option Addr) (m c : Nat) (ys : List α) (hx : a.eval x = .slice A m c) (hm : ys.length = m) (hy : Lies f w A ys) (h47 : (n + m) * by_ ≤ 140737488355328) (h48 : n + m ≤ maxLen) (hB : B ≤ w.heap.size)
    (h : ∀ A' c' w', w'.ownsRow B e 1 (.slice A' (n + m) c') (n + m) ((xs ++ ys).map f) → w.grownBy w' v.ownBlock → Below B w w' → wpListIn F d P ops Q rest (a.put o.dst (.slice A' (n + m) c')) w') : wpListIn F d P ops Q (o :: rest) a w := by
  obtain ⟨A', c', w', hrun, h2, h3, h4⟩ := run_append_lies K hf w o.type B v n xs hown A m c ys hm hy h47 h48 hB
  refine wpListIn_plain hgd fun K hK => ?_
  unfold Oper.wpIn
  refine ⟨?_, ?_⟩
  · simp [Oper.about, ho, resolve, Target.leads, Sem.run_pure]
  · rw [Oper.semAt_plain F _ _ (by rw [ho]; intro c hc'; cases hc')]
    simp only [execOp, ho, resolve, invoke, builtin, Sem.run_bind, Sem.run_pure, Result.andThen_ok, List.map_toArray, List.map_cons, List.map_nil, hs, hx, hrun]
    exact hK _ _ (h A' c' w' h2 h3 h4)

/-- The same at a step of a region that draws its order. -/
theorem step_append_own (K : EK P t e z by_) (hf : ∀ x, (f x).oneCell' = true) (w : World) {ops : Array Oper} {o : Oper} {a : Act} {K' : Act → World → Prop} {Q : Exit → Act → World → Prop} {E : Prop} (hgd : o.guard = none) (s x : Operand)
    (ho : o.op = .call { callee := .builtin .append, args := #[s, x], argTypes := #[t, t] })
    (B : Nat) (v : Value) (n : Nat) (xs : List α) (hs : a.eval s = v) (hown : w.ownsRow B e 1 v n (xs.map f))
    (A : Option Addr) (m c : Nat) (ys : List α) (hx : a.eval x = .slice A m c) (hm : ys.length = m) (hy : Lies f w A ys) (h47 : (n + m) * by_ ≤ 140737488355328) (h48 : n + m ≤ maxLen) (hB : B ≤ w.heap.size)
    (h : ∀ A' c' w', w'.ownsRow B e 1 (.slice A' (n + m) c') (n + m) ((xs ++ ys).map f) → w.grownBy w' v.ownBlock → Below B w w' → K' (a.put o.dst (.slice A' (n + m) c')) w') :
    if Region.wanted o (yielded ops a.tmps) = true then Oper.wp P o a w K' Q else E := by
  obtain ⟨A', c', w', hrun, h2, h3, h4⟩ := run_append_lies K hf w o.type B v n xs hown A m c ys hm hy h47 h48 hB
  rw [if_pos (by simp [Region.wanted, hgd])]
  unfold Oper.wp execOp
  simp only [ho, resolve, invoke, builtin, Sem.run_bind, Sem.run_pure, Result.andThen_ok, List.map_toArray, List.map_cons, List.map_nil, hs, hx, hrun]
  exact h A' c' w' h2 h3 h4
end
end Go.Proofs.YtcbkbdoaaaofjaaGreat
