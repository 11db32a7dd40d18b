/-
  Slices of bytes: words and laws over whatever program. 'Bytes w A l': behind the address A lie the bytes l. 'bv l': the bytes as cells.
-/
import Derived.Below
import Derived.Maps.AppendAt
import Derived.Deep.AppendLies
import Derived.Deep.Draws
import Derived.OwnWalk
import Derived.Laws.Rows
import Derived.Laws.BytesArg
namespace Go.Proofs.Ytdiodopdndojbaa
open Go.RowKit

theorem drewN_below {B : Nat} {a w : World} (h : Below B a w) (n : Nat) : Below B a (w.drewN n) := ⟨h.os, h.tape, h.output, h.size, h.block⟩

/-- Bytes as cells. -/
def bv (l : List UInt8) : List Value := l.map fun x => Value.int .u8 (x.toNat : Int)
theorem bv_length (l : List UInt8) : (bv l).length = l.length := by simp [bv]
theorem bv_append (a b : List UInt8) : bv (a ++ b) = bv a ++ bv b := by simp [bv]
theorem bv_one (l : List UInt8) : ∀ u ∈ bv l, u.oneCell' = true := by
  intro u hu
  obtain ⟨x, _, rfl⟩ := List.mem_map.1 hu
  rfl
theorem bv_get (l : List UInt8) (j : Nat) : (bv l)[j]? = (l[j]?).map fun x => Value.int .u8 (x.toNat : Int) := by simp [bv]

/-- Behind the address A lie the bytes l (where there is none: whatever A). -/
def Bytes (w : World) (A : Option Addr) (l : List UInt8) : Prop :=
  ∀ j (h : j < l.length), ∃ b off, A = some ⟨b, off, none⟩ ∧ w.cell? ⟨b, off + j, none⟩ = some (.int .u8 ((l[j]).toNat : Int))

section
variable {w w' : World} {A : Option Addr} {l : List UInt8}
theorem Bytes.nil (w : World) (A : Option Addr) : Bytes w A [] := fun j h => absurd h (by simp)
theorem Bytes.keep (h : Bytes w A l) (hk : ∀ (p : Addr) (v : Value), w.cell? p = some v → w'.cell? p = some v) : Bytes w' A l := fun j hj => by
  obtain ⟨b, off, e, hc⟩ := h j hj
  exact ⟨b, off, e, hk _ _ hc⟩
theorem Bytes.below {B : Nat} (h : Bytes w A l) (hb : Below B w w') (hB : w.heap.size ≤ B) : Bytes w' A l :=
  h.keep fun p _ hc => (hb.cell (p := p) (Nat.lt_of_lt_of_le (World.block_lt_of_cell? w p hc) hB)).trans hc
theorem Bytes.drewN (h : Bytes w A l) (n : Nat) : Bytes (w.drewN n) A l := h
theorem Bytes.drew (h : Bytes w A l) : Bytes w.drew A l := h
theorem Bytes.alloc (h : Bytes w A l) (o : Obj) : Bytes (w.alloc o) A l := h.below ((Below.refl _ _).alloc (Nat.le_refl _) o) (Nat.le_refl _)
/-- The first n of them. -/
theorem Bytes.take (h : Bytes w A l) (n : Nat) : Bytes w A (l.take n) := fun j hj => by
  have h1 : j < l.length := by rw [List.length_take] at hj; omega
  obtain ⟨b, off, e, hc⟩ := h j h1
  refine ⟨b, off, e, ?_⟩
  rw [List.getElem_take]
  exact hc
/-- In one form, where there is at least one. -/
theorem Bytes.at_ (h : Bytes w A l) (h0 : 0 < l.length) : ∃ b off, A = some ⟨b, off, none⟩ ∧ ∀ j (hj : j < l.length), w.cell? ⟨b, off + j, none⟩ = some (.int .u8 ((l[j]).toNat : Int)) := by
  obtain ⟨b, off, e, _⟩ := h 0 h0
  refine ⟨b, off, e, fun j hj => ?_⟩
  obtain ⟨b', off', e', hc⟩ := h j hj
  rw [e] at e'
  simp only [Option.some.injEq, Addr.mk.injEq, and_true] at e'
  obtain ⟨rfl, rfl⟩ := e'
  exact hc
theorem Bytes.of_row {b off : Nat} (h : ∀ j (hj : j < l.length), w.cell? ⟨b, off + j, none⟩ = some (.int .u8 ((l[j]).toNat : Int))) : Bytes w (some ⟨b, off, none⟩) l :=
  fun j hj => ⟨b, off, rfl, h j hj⟩
theorem Bytes.cells_add {b off : Nat} (h : Bytes w (some ⟨b, off, none⟩) l) : ∀ j u, (bv l)[j]? = some u → w.cell? ((⟨b, off, none⟩ : Addr).add j) = some u := by
  intro j u hu
  rw [bv_get] at hu
  obtain ⟨x, hx, rfl⟩ := Option.map_eq_some_iff.1 hu
  obtain ⟨hj, rfl⟩ := List.getElem?_eq_some_iff.1 hx
  obtain ⟨b', off', e', hc⟩ := h j hj
  simp only [Option.some.injEq, Addr.mk.injEq, and_true] at e'
  obtain ⟨rfl, rfl⟩ := e'
  have hadd : (⟨b, off, none⟩ : Addr).add j = ⟨b, off + j, none⟩ := by unfold Addr.add; split <;> simp_all
  rw [hadd]
  exact hc
/-- What the call owns reads so. -/
theorem own_bytes {B e n : Nat} {v : Value} (h : w.ownsRow B e 1 v n (bv l)) : ∃ A c, v = .slice A n c ∧ l.length = n ∧ n ≤ c ∧ c ≤ maxLen ∧ Bytes w A l := by
  have hl : l.length = n := by have := h.1; rw [bv_length] at this; omega
  rcases h.2 with ⟨rfl, rfl⟩ | ⟨g, cap, cur, rfl, _, hg, hnc, hm, hcs, htake⟩
  · obtain rfl : l = [] := List.eq_nil_of_length_eq_zero hl
    exact ⟨none, 0, rfl, hl, Nat.le_refl _, Nat.zero_le _, Bytes.nil _ _⟩
  · refine ⟨some ⟨g, 0, none⟩, cap, rfl, hl, hnc, hm, Bytes.of_row fun j hj => ?_⟩
    have := h.cellAt (g := g) (cap := cap) j (by omega)
    rw [Nat.zero_add, this, bv_get, List.getElem?_eq_getElem hj]
    rfl
theorem own_at {B e n c : Nat} {A : Option Addr} (h : w.ownsRow B e 1 (.slice A n c) n (bv l)) : n ≤ c ∧ c ≤ maxLen ∧ Bytes w A l := by
  obtain ⟨A', c', hv, _, h2, h3, h4⟩ := own_bytes h
  simp only [Value.slice.injEq, true_and] at hv
  obtain ⟨rfl, rfl⟩ := hv
  exact ⟨h2, h3, h4⟩
theorem bytes_new (w : World) (cs : Array Value) (e : TypeId) (l : List UInt8) (h : cs.toList = bv l) (fr : Nat × Nat := (0, 0)) : Bytes (w.alloc (.cells cs e fr)) (some ⟨w.heap.size, 0, none⟩) l :=
  Bytes.of_row fun j hj => by
    rw [cell_of_row (w.alloc (.cells cs e fr)) w.heap.size (0 + j) cs e fr (heap_alloc_new w _), Nat.zero_add, ← Array.getElem?_toList, h, bv_get, List.getElem?_eq_getElem hj]
    rfl
end

/-- What is known of the types: t a slice of e, e the bytes. -/
structure BK (P : Program) (t e : TypeId) : Prop where
  ht : P.underlying t = some (.slice e)
  he : P.underlying e = some (.int .u8)
  hi : (P.info? e).map (fun i => (i.zero, i.size, i.bytes)) = some (some (.int .u8 0), 1, 1)

section
variable {P : Program} {t e : TypeId}
/-- append of nothing. -/
theorem run_append_nothing (K : BK P t e) (w : World) (ty : TypeId) (B : Nat) (v : Value) (n : Nat) (xs : List Value) (hown : w.ownsRow B e 1 v n xs) (c : Nat) :
    (Builtin.append_ #[t, t] ty #[v, .slice none 0 c]).run P w = .ok v w := by
  obtain ⟨i, hi, _, hs, _⟩ := info_parts K.hi
  rcases hown.2 with ⟨rfl, rfl⟩ | ⟨g, cap, cur, rfl, _, _, hnc, _⟩
  · simp [Builtin.append_, run_underlying K.ht, sizeOf, typeInfo, hi, Builtin.lenOf, Builtin.firstCells]
  · simp [Builtin.append_, run_underlying K.ht, sizeOf, typeInfo, hi, Builtin.lenOf, Builtin.firstCells, hnc, storeCells]

/-- append of bytes, wherever they lie, onto bytes of the call's own. -/
theorem run_append_bytes (K : BK P t e) (w : World) (ty : TypeId) (B : Nat) (v : Value) (n : Nat) (xs : List UInt8) (hown : w.ownsRow B e 1 v n (bv xs))
    (A : Option Addr) (m c : Nat) (ys : List UInt8) (hm : ys.length = m) (hy : Bytes w A ys) (h47 : n + m ≤ 140737488355328) (hB : B ≤ w.heap.size) :
    ∃ A' c' w', (Builtin.append_ #[t, t] ty #[v, .slice A m c]).run P w = .ok (.slice A' (n + m) c') w' ∧ w'.ownsRow B e 1 (.slice A' (n + m) c') (n + m) (bv (xs ++ ys)) ∧ w.grownBy w' v.ownBlock ∧ Below B w w' := by
  obtain ⟨i, hi, hz, hs, hb⟩ := info_parts K.hi
  have hbelow : ∀ w', w.grownBy w' v.ownBlock → Below B w w' := fun w' hg => (Below.refl B w).grown hg hB fun k hk => (hown.lt k hk).1
  rcases A with _ | ad
  · obtain rfl : ys = [] := by
      rcases ys with _ | ⟨y, r⟩
      · rfl
      · obtain ⟨_, _, h, _⟩ := hy 0 (by simp)
        cases h
    obtain rfl : m = 0 := by simpa using hm.symm
    obtain ⟨A', c', rfl, hl, _⟩ := own_bytes hown
    exact ⟨A', c', w, run_append_nothing K w ty B _ n _ hown c, by simpa using hown, World.grownBy.refl w _, Below.refl _ _⟩
  · have hnews : ∀ j u, (bv ys)[j]? = some u → w.cell? (ad.add j) = some u := by
      intro j u hu
      have hj : j < ys.length := by
        rcases Nat.lt_or_ge j ys.length with h | h
        · exact h
        · rw [bv_get, List.getElem?_eq_none h] at hu; cases hu
      obtain ⟨b, off, h, _⟩ := hy j hj
      injection h with h
      subst h
      exact hy.cells_add j u hu
    obtain ⟨v', w', hrun, h2, h3, _, _⟩ := run_append_own_at (P := P) w B t ty e i _ 1 1 K.ht hi hz hs hb rfl (by omega) v n (bv xs) hown ad m c (bv ys) (by rw [bv_length, hm, Nat.mul_one]) hnews (bv_one ys)
      (by simp only [maxLen]; omega) (by omega) hB
    rw [← bv_append] at h2
    obtain ⟨A', c', rfl, _⟩ := own_bytes h2
    exact ⟨A', c', w', hrun, h2, h3, hbelow w' h3⟩

theorem wpList_append_bytes (K : BK P t e) (w : World) {ops : Array Oper} {rest : List Oper} {o : Oper} {a : Act} {Q : Exit → Act → World → Prop} (hgd : o.guard = none) (s x : Operand)
    (ho : o.op = .call { callee := .builtin .append, args := #[s, x], argTypes := #[t, t] })
    (B : Nat) (v : Value) (n : Nat) (xs : List UInt8) (hs : a.eval s = v) (hown : w.ownsRow B e 1 v n (bv xs))
    (A : Option Addr) (m c : Nat) (ys : List UInt8) (hx : a.eval x = .slice A m c) (hm : ys.length = m) (hy : Bytes w A ys) (h47 : n + m ≤ 140737488355328) (hB : B ≤ w.heap.size)
    (h : ∀ A' c' w', w'.ownsRow B e 1 (.slice A' (n + m) c') (n + m) (bv (xs ++ ys)) → w.grownBy w' v.ownBlock → Below B w w' → wpList P ops Q rest (a.put o.dst (.slice A' (n + m) c')) w') : wpList P ops Q (o :: rest) a w := by
  obtain ⟨A', c', w', hrun, h2, h3, h4⟩ := run_append_bytes K w o.type B v n xs hown A m c ys hm hy h47 hB
  refine wpList_plain hgd fun _ hK => ?_
  unfold Oper.wp execOp
  simp only [ho, resolve, invoke, builtin, Sem.run_bind, Sem.run_pure, Result.andThen_ok, List.map_toArray, List.map_cons, List.map_nil, hs, hx, hrun]
  exact hK _ _ (h A' c' w' h2 h3 h4)
end
end Go.Proofs.Ytdiodopdndojbaa
