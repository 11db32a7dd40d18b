
/- A part of the proof of the law MasterDoes. -/
import Derived.Below
import Derived.Maps.AppendAt
import Derived.Deep.AppendLies
import Derived.Deep.Draws
import Derived.OwnWalk
import Derived.OwnWalkIn
import Derived.Laws.Rows
import Derived.Laws.BytesArg
import Derived.Test.YtlgmjnjhdamknaaGreatRows
import Derived.ShutString
import Derived.WalkKit
import Derived.ProofKit
import Derived.OpenShut
import Derived.ChangeOld
import Derived.SizedLaws
import Derived.Test.YtlgmjnjhdamknaaGreatProg
import Derived.Outline
import Derived.Lib.Hide
import Derived.Deep.QuietTactic
import Derived.Deep.DeepMust
import Derived.BigQuiet
namespace Go.Proofs.YtlgmjnjhdamknaaGreat
theorem qh {p : Prop} (h : p) : Go.RowKit.Hid p := h
theorem zq (n : Nat) : n ≤ n := Nat.le_refl n
open Go.RowKit

theorem drewN_below {B : Nat} {a w : World} (h : Below B a w) (n : Nat) : Below B a (w.drewN n) := ⟨h.os, h.tape, h.output, h.size, h.block⟩

abbrev u8v (x : UInt8) : Value := .int .u8 (x.toNat : Int)
abbrev u16v (x : UInt16) : Value := .int .u16 (x.toNat : Int)
abbrev bitv (x : Bool) : Value := .bool x

def Lies {α : Type} (f : α → Value) (w : World) (A : Option Addr) (l : List α) : Prop :=
  ∀ j (h : j < l.length), ∃ b off, A = some ⟨b, off, none⟩ ∧ w.cell? ⟨b, off + j, none⟩ = some (f l[j])

section
variable {α : Type} {f : α → Value} {w w' : World} {A : Option Addr} {l : List α}
theorem Lies.nil (w : World) (A : Option Addr) : Lies f w A [] := fun j h => absurd h (by simp)
theorem Lies.keep (h : Lies f w A l) (hk : ∀ (p : Addr) (v : Value), w.cell? p = some v → w'.cell? p = some v) : Lies f w' A l := fun j hj => by
  obtain ⟨b, off, e, hc⟩ := h j hj
  exact ⟨b, off, e, hk _ _ hc⟩
theorem Lies.below {B : Nat} (h : Lies f w A l) (hb : Below B w w') (hB : w.heap.size ≤ B) : Lies f w' A l :=
  h.keep fun p _ hc => (hb.cell (p := p) (Nat.lt_of_lt_of_le (World.block_lt_of_cell? w p hc) hB)).trans hc
theorem Lies.drewN (h : Lies f w A l) (n : Nat) : Lies f (w.drewN n) A l := h
theorem Lies.drew (h : Lies f w A l) : Lies f w.drew A l := h
theorem Lies.alloc (h : Lies f w A l) (o : Obj) : Lies f (w.alloc o) A l := h.below ((Below.refl _ _).alloc (zq _) o) (zq _)
theorem Lies.at_ (h : Lies f w A l) (h0 : 0 < l.length) : ∃ b off, A = some ⟨b, off, none⟩ ∧ b < w.heap.size ∧ ∀ j (hj : j < l.length), w.cell? ⟨b, off + j, none⟩ = some (f l[j]) := by
  obtain ⟨b, off, e, hc0⟩ := h 0 h0
  refine ⟨b, off, e, World.block_lt_of_cell? w _ hc0, fun j hj => ?_⟩
  obtain ⟨b', off', e', hc⟩ := h j hj
  rw [e] at e'
  simp only [Option.some.injEq, Addr.mk.injEq, and_true] at e'
  obtain ⟨rfl, rfl⟩ := e'
  exact hc
theorem Lies.of_row {b off : Nat} (h : ∀ j (hj : j < l.length), w.cell? ⟨b, off + j, none⟩ = some (f l[j])) : Lies f w (some ⟨b, off, none⟩) l :=
  fun j hj => ⟨b, off, rfl, h j hj⟩
theorem Lies.row {b off : Nat} (h : Lies f w (some ⟨b, off, none⟩) l) : ∀ j (hj : j < l.length), w.cell? ⟨b, off + j, none⟩ = some (f l[j]) := by
  intro j hj
  obtain ⟨b', off', e', hc⟩ := h j hj
  simp only [Option.some.injEq, Addr.mk.injEq, and_true] at e'
  obtain ⟨rfl, rfl⟩ := e'
  exact hc
theorem Lies.take (h : Lies f w A l) (n : Nat) : Lies f w A (l.take n) := fun j hj => by
  have h1 : j < l.length := by rw [List.length_take] at hj; omega
  obtain ⟨b, off, e, hc⟩ := h j h1
  refine ⟨b, off, e, ?_⟩
  rw [List.getElem_take]
  exact hc
theorem Lies.drop {b off : Nat} (h : Lies f w (some ⟨b, off, none⟩) l) (n : Nat) : Lies f w (some ⟨b, off + n, none⟩) (l.drop n) := Lies.of_row fun j hj => by
  rw [List.length_drop] at hj
  rw [List.getElem_drop, Nat.add_assoc]
  exact h.row (n + j) (by omega)
theorem Lies.cells_add {b off : Nat} (h : Lies f w (some ⟨b, off, none⟩) l) : ∀ j u, (l.map f)[j]? = some u → w.cell? ((⟨b, off, none⟩ : Addr).add j) = some u := by
  intro j u hu
  rw [List.getElem?_map] at hu
  obtain ⟨x, hx, rfl⟩ := Option.map_eq_some_iff.1 hu
  obtain ⟨hj, rfl⟩ := List.getElem?_eq_some_iff.1 hx
  have hadd : (⟨b, off, none⟩ : Addr).add j = ⟨b, off + j, none⟩ := by unfold Addr.add; split <;> simp_all
  rw [hadd]
  exact h.row j hj
theorem own_lies {B e n : Nat} {v : Value} (h : w.ownsRow B e 1 v n (l.map f)) : ∃ A c, v = .slice A n c ∧ l.length = n ∧ n ≤ c ∧ c ≤ maxLen ∧ Lies f w A l := by
  have hl : l.length = n := by have := h.1; rw [List.length_map] at this; omega
  rcases h.2 with ⟨rfl, rfl⟩ | ⟨g, cap, cur, rfl, _, hg, hnc, hm, hcs, htake⟩
  · obtain rfl : l = [] := List.eq_nil_of_length_eq_zero hl
    exact ⟨none, 0, rfl, hl, zq _, Nat.zero_le _, Lies.nil _ _⟩
  · refine ⟨some ⟨g, 0, none⟩, cap, rfl, hl, hnc, hm, Lies.of_row fun j hj => ?_⟩
    have := h.cellAt (g := g) (cap := cap) j (by omega)
    rw [Nat.zero_add, this, List.getElem?_map, List.getElem?_eq_getElem hj]
    rfl
theorem own_at {B e n c : Nat} {A : Option Addr} (h : w.ownsRow B e 1 (.slice A n c) n (l.map f)) : n ≤ c ∧ c ≤ maxLen ∧ l.length = n ∧ Lies f w A l := by
  obtain ⟨A', c', hv, h1, h2, h3, h4⟩ := own_lies h
  simp only [Value.slice.injEq, true_and] at hv
  obtain ⟨rfl, rfl⟩ := hv
  exact ⟨h2, h3, h1, h4⟩
theorem lies_new (w : World) (cs : Array Value) (e : TypeId) (l : List α) (h : cs.toList = l.map f) (fr : Nat × Nat := (0, 0)) : Lies f (w.alloc (.cells cs e fr)) (some ⟨w.heap.size, 0, none⟩) l :=
  Lies.of_row fun j hj => by
    rw [cell_of_row (w.alloc (.cells cs e fr)) w.heap.size (0 + j) cs e fr (heap_alloc_new w _), Nat.zero_add, ← Array.getElem?_toList, h, List.getElem?_map, List.getElem?_eq_getElem hj]
    rfl
end

theorem Lies.setCell_far {α : Type} {f : α → Value} {w : World} {b off g : Nat} {l : List α} (h : Lies f w (some ⟨b, off, none⟩) l) (hne : b ≠ g) (k : Nat) (u : Value) : Lies f (w.setCell ⟨g, k, none⟩ u) (some ⟨b, off, none⟩) l :=
  Lies.of_row fun j hj => by
    have := h.row j hj
    rw [← this]
    simp only [World.cell?, World.setCell]
    rw [Array.getElem?_modify, if_neg (fun e => hne e.symm)]
theorem own_lit {α : Type} (f : α → Value) (w : World) (cs : Array Value) (e : TypeId) (B g n : Nat) (xs : List α) (h : cs.toList = xs.map f) (hn : xs.length = n) (hB : B ≤ w.heap.size) (hg : w.heap.size = g) (hm : n ≤ maxLen) :
    (w.alloc (.cells cs e)).ownsRow B e 1 (.slice (some ⟨g, 0, none⟩) n n) n (xs.map f) := by
  subst hg
  rw [← h]
  exact World.ownsRow_lit w cs n hB hm (by rw [← Array.length_toList, h, List.length_map, hn, Nat.mul_one])
theorem lies_at {α : Type} {f : α → Value} (w : World) (cs : Array Value) (e : TypeId) (g : Nat) (l : List α) (h : cs.toList = l.map f) (hg : w.heap.size = g) : Lies f (w.alloc (.cells cs e)) (some ⟨g, 0, none⟩) l := by
  subst hg
  exact lies_new w cs e l h

structure EK (P : Program) (t e : TypeId) (z : Value) (by_ : Nat) : Prop where
  ht : P.underlying t = some (.slice e)
  hi : (P.info? e).map (fun i => (i.zero, i.size, i.bytes)) = some (some z, 1, by_)
  hz : z.cells.size = 1

section
variable {P : Program} {t e : TypeId} {z : Value} {by_ : Nat} {α : Type} {f : α → Value}
theorem run_append_nothing (K : EK P t e z by_) (w : World) (ty : TypeId) (B : Nat) (v : Value) (n : Nat) (xs : List Value) (hown : w.ownsRow B e 1 v n xs) (c : Nat) :
    (Builtin.append_ #[t, t] ty #[v, .slice none 0 c]).run P w = .ok v w := by
  obtain ⟨i, hi, _, hs, _⟩ := info_parts K.hi
  rcases hown.2 with ⟨rfl, rfl⟩ | ⟨g, cap, cur, rfl, _, _, hnc, _⟩
  · simp [Builtin.append_, run_underlying K.ht, sizeOf, typeInfo, hi, Builtin.lenOf, Builtin.firstCells]
  · simp [Builtin.append_, run_underlying K.ht, sizeOf, typeInfo, hi, Builtin.lenOf, Builtin.firstCells, hnc, storeCells]

theorem run_append_lies (K : EK P t e z by_) (hf : ∀ x, (f x).oneCell' = true) (w : World) (ty : TypeId) (B : Nat) (v : Value) (n : Nat) (xs : List α) (hown : w.ownsRow B e 1 v n (xs.map f))
    (A : Option Addr) (m c : Nat) (ys : List α) (hm : ys.length = m) (hy : Lies f w A ys) (h47 : (n + m) * by_ ≤ 140737488355328) (h48 : n + m ≤ maxLen) (hB : B ≤ w.heap.size) :
    ∃ A' c' w', (Builtin.append_ #[t, t] ty #[v, .slice A m c]).run P w = .ok (.slice A' (n + m) c') w' ∧ w'.ownsRow B e 1 (.slice A' (n + m) c') (n + m) ((xs ++ ys).map f) ∧ w.grownBy w' v.ownBlock ∧ Below B w w' := by
  obtain ⟨i, hi, hz, hs, hb⟩ := info_parts K.hi
  have hbelow : ∀ w', w.grownBy w' v.ownBlock → Below B w w' := fun w' hg => (Below.refl B w).grown hg hB fun k hk => (hown.lt k hk).1
  rcases A with _ | ad
  · obtain rfl : ys = [] := by
      rcases ys with _ | ⟨y, r⟩
      · rfl
      · obtain ⟨_, _, h, _⟩ := hy 0 (by simp)
        cases h
    obtain rfl : m = 0 := by simpa using hm.symm
    obtain ⟨A', c', rfl, hl, _⟩ := own_lies hown
    exact ⟨A', c', w, run_append_nothing K w ty B _ n _ hown c, by simpa using hown, World.grownBy.refl w _, Below.refl _ _⟩
  · have hnews : ∀ j u, (ys.map f)[j]? = some u → w.cell? (ad.add j) = some u := by
      intro j u hu
      have hj : j < ys.length := by
        rcases Nat.lt_or_ge j ys.length with h | h
        · exact h
        · rw [List.getElem?_map, List.getElem?_eq_none h] at hu; cases hu
      obtain ⟨b, off, h, _⟩ := hy j hj
      injection h with h
      subst h
      exact hy.cells_add j u hu
    obtain ⟨v', w', hrun, h2, h3, _, _⟩ := run_append_own_at (P := P) w B t ty e i _ 1 by_ K.ht hi hz hs hb K.hz (by omega) v n (xs.map f) hown ad m c (ys.map f) (by rw [List.length_map, hm, Nat.mul_one]) hnews (by intro u hu; obtain ⟨x, _, rfl⟩ := List.mem_map.1 hu; exact hf x)
      h48 h47 hB
    rw [← List.map_append] at h2
    obtain ⟨A', c', rfl, _⟩ := own_lies h2
    exact ⟨A', c', w', hrun, h2, h3, hbelow w' h3⟩

theorem wpList_append_lies (K : EK P t e z by_) (hf : ∀ x, (f x).oneCell' = true) (w : World) {ops : Array Oper} {rest : List Oper} {o : Oper} {a : Act} {Q : Exit → Act → World → Prop} (hgd : o.guard = none) (s x : Operand)
    (ho : o.op = .call { callee := .builtin .append, args := #[s, x], argTypes := #[t, t] })
    (B : Nat) (v : Value) (n : Nat) (xs : List α) (hs : a.eval s = v) (hown : w.ownsRow B e 1 v n (xs.map f))
    (A : Option Addr) (m c : Nat) (ys : List α) (hx : a.eval x = .slice A m c) (hm : ys.length = m) (hy : Lies f w A ys) (h47 : (n + m) * by_ ≤ 140737488355328) (h48 : n + m ≤ maxLen) (hB : B ≤ w.heap.size)
    (h : ∀ A' c' w', w'.ownsRow B e 1 (.slice A' (n + m) c') (n + m) ((xs ++ ys).map f) → w.grownBy w' v.ownBlock → Below B w w' → wpList P ops Q rest (a.put o.dst (.slice A' (n + m) c')) w') : wpList P ops Q (o :: rest) a w := by
  obtain ⟨A', c', w', hrun, h2, h3, h4⟩ := run_append_lies K hf w o.type B v n xs hown A m c ys hm hy h47 h48 hB
  refine wpList_plain hgd fun _ hK => ?_
  unfold Oper.wp execOp
  simp only [ho, resolve, invoke, builtin, Sem.run_bind, Sem.run_pure, Result.andThen_ok, List.map_toArray, List.map_cons, List.map_nil, hs, hx, hrun]
  exact hK _ _ (h A' c' w' h2 h3 h4)

theorem step_append_own (K : EK P t e z by_) (hf : ∀ x, (f x).oneCell' = true) (w : World) {ops : Array Oper} {o : Oper} {a : Act} {K' : Act → World → Prop} {Q : Exit → Act → World → Prop} {E : Prop} (hgd : o.guard = none) (s x : Operand)
    (ho : o.op = .call { callee := .builtin .append, args := #[s, x], argTypes := #[t, t] })
    (B : Nat) (v : Value) (n : Nat) (xs : List α) (hs : a.eval s = v) (hown : w.ownsRow B e 1 v n (xs.map f))
    (A : Option Addr) (m c : Nat) (ys : List α) (hx : a.eval x = .slice A m c) (hm : ys.length = m) (hy : Lies f w A ys) (h47 : (n + m) * by_ ≤ 140737488355328) (h48 : n + m ≤ maxLen) (hB : B ≤ w.heap.size)
    (h : ∀ A' c' w', w'.ownsRow B e 1 (.slice A' (n + m) c') (n + m) ((xs ++ ys).map f) → w.grownBy w' v.ownBlock → Below B w w' → K' (a.put o.dst (.slice A' (n + m) c')) w') :
    if Region.wanted o (yielded ops a.tmps) = true then Oper.wp P o a w K' Q else E := by
  obtain ⟨A', c', w', hrun, h2, h3, h4⟩ := run_append_lies K hf w o.type B v n xs hown A m c ys hm hy h47 h48 hB
  rw [if_pos (by simp [Region.wanted, hgd])]
  unfold Oper.wp execOp
  simp only [ho, resolve, invoke, builtin, Sem.run_bind, Sem.run_pure, Result.andThen_ok, List.map_toArray, List.map_cons, List.map_nil, hs, hx, hrun]
  exact h A' c' w' h2 h3 h4
end
end Go.Proofs.YtlgmjnjhdamknaaGreat

namespace Go.Proofs.YtlgmjnjhdamknaaGreat
open Go.ChangeShapes Go.WideShapes Go.ChangeAt Go.RowKit

theorem own : ownKnob Tryz.prog.godebug = none := by kernel_rfl
theorem laidOut : laidOutB Tryz.prog = true := by kernel_rfl

def Small {H : Type} (P : Program) (t : TypeId) (d : DataW H) : Prop := ∀ n ∈ d.weights P t, n ≤ reachBytes

def Opens {H : Type} (enc : TypeId × Value → H) (P : Program) (w : World) (b : Nat) (sp : Nat → Bool) (hd : Bool) (t : TypeId) {β : Type} (R : β → List Value → Prop) : Prop :=
  ∀ m cs y, DataW.trod enc P w b sp hd m t cs = some y → Small P t y.1 → ∃ x, R x cs

def SlAt {β : Type} (w : World) (R : β → List Value → Prop) (k : Nat) (A : Option Addr) (l : List β) : Prop :=
  ∀ j (h : j < l.length), ∃ b off cs, A = some ⟨b, off, none⟩ ∧ cs.length = k ∧ (∀ i (hi : i < cs.length), w.cell? ⟨b, off + j * k + i, none⟩ = some cs[i]) ∧ R l[j] cs
def SliceOf {β : Type} (w : World) (P : Program) (e : TypeId) (R : β → List Value → Prop) (k : Nat) (l : List β) (cs : List Value) : Prop :=
  ∃ A n c, cs = [.slice A n c] ∧ l.length = n ∧ n ≤ c ∧ c ≤ maxLen ∧ n * P.bytesOf e ≤ reachBytes ∧ SlAt w R k A l

section
variable {P : Program} {H : Type} {enc : TypeId × Value → H} {w : World} {b : Nat} {sp : Nat → Bool} {hd : Bool} {t e : TypeId}

theorem cells_list {a : Addr} {k : Nat} {cs : List Value} (h : w.cells? b a k = some cs) : cs.length = k ∧ ∀ i (hi : i < cs.length), w.cell? (a.add i) = some cs[i] := by
  unfold World.cells? at h
  split at h
  · have hl := mapM_some_length h
    rw [List.length_range] at hl
    refine ⟨hl, fun i hi => ?_⟩
    have := mapM_some_get h i i (by simp [show i < k by omega])
    rw [this, List.getElem?_eq_getElem hi]
  · cases h
theorem weights_all {l : List (DataW H)} (h : ∀ n ∈ DataW.weightsAll P e l, n ≤ reachBytes) : ∀ d ∈ l, Small P e d := by
  induction l with
  | nil => intro d hd'; cases hd'
  | cons x r ih =>
    simp only [DataW.weightsAll, List.mem_append] at h
    intro d hd'
    rcases List.mem_cons.1 hd' with rfl | h1
    · exact fun n hn => h n (.inl hn)
    · exact ih (fun n hn => h n (.inr hn)) d h1
theorem small_part {fs : Array Field} (hu : P.underlying t = some (.struct fs)) {parts : List (DataW H)} (h : Small P t (.agg parts)) {j : Nat} {f : Field} {d : DataW H} (hf : fs[j]? = some f) (hp : parts[j]? = some d) : Small P f.type d := by
  intro n hn
  refine h n ?_
  simp only [DataW.weights, hu]
  exact DataW.weights_mem_each (j := j) (by simpa using ⟨f, hf, rfl⟩) hp n hn
theorem small_each {ts : List TypeId} {ds : List (DataW H)} (h : (DataW.weightsEach P ts ds).all (· ≤ reachBytes) = true) {j : Nat} {d : DataW H} (ht : ts[j]? = some t) (hp : ds[j]? = some d) : Small P t d := by
  intro n hn
  have := List.all_eq_true.1 h _ (DataW.weights_mem_each ht hp n hn)
  simpa using this

theorem open_u8 (hu : P.underlying t = some (.int .u8)) : Opens enc P w b sp hd t (fun (x : UInt8) cs => cs = [u8v x]) := by
  intro m cs y h _
  obtain ⟨n, rfl, _, hw⟩ := DataW.trod_int hu h
  have := bounds_u8 hw
  refine ⟨UInt8.ofNat n.toNat, ?_⟩
  show [Value.int .u8 n] = [.int .u8 ((UInt8.ofNat n.toNat).toNat : Int)]
  rw [show ((UInt8.ofNat n.toNat).toNat : Int) = n by rw [UInt8.toNat_ofNat']; omega]
theorem open_u16 (hu : P.underlying t = some (.int .u16)) : Opens enc P w b sp hd t (fun (x : UInt16) cs => cs = [u16v x]) := by
  intro m cs y h _
  obtain ⟨n, rfl, _, hw⟩ := DataW.trod_int hu h
  have := bounds_u16 hw
  refine ⟨UInt16.ofNat n.toNat, ?_⟩
  show [Value.int .u16 n] = [.int .u16 ((UInt16.ofNat n.toNat).toNat : Int)]
  rw [show ((UInt16.ofNat n.toNat).toNat : Int) = n by rw [UInt16.toNat_ofNat']; omega]
theorem open_i64 (hu : P.underlying t = some (.int .i64)) : Opens enc P w b sp hd t (fun (x : Int) cs => cs = [.int .i64 x] ∧ -9223372036854775808 ≤ x ∧ x ≤ 9223372036854775807) := by
  intro m cs y h _
  obtain ⟨n, rfl, _, hw⟩ := DataW.trod_int hu h
  have := bounds_i64 hw
  exact ⟨n, rfl, by omega, by omega⟩
theorem open_bit (hu : P.underlying t = some .bool) : Opens enc P w b sp hd t (fun (x : Bool) cs => cs = [.bool x]) := by
  intro m cs y h _
  obtain ⟨x, rfl, _⟩ := DataW.trod_bool hu h
  exact ⟨x, rfl⟩

theorem choose_list {β : Type} {n : Nat} {Q : Nat → β → Prop} (h : ∀ j, j < n → ∃ x, Q j x) : ∃ l : List β, l.length = n ∧ ∀ j (hj : j < l.length), Q j l[j] := by
  induction n with
  | zero => exact ⟨[], rfl, fun j hj => absurd hj (by simp)⟩
  | succ n ih =>
    obtain ⟨l, hl, hq⟩ := ih fun j hj => h j (by omega)
    obtain ⟨x, hx⟩ := h n (by omega)
    refine ⟨l ++ [x], by simp [hl], fun j hj => ?_⟩
    by_cases hjn : j < l.length
    · rw [List.getElem_append_left hjn]; exact hq j hjn
    · have : j = n := by simp at hj; omega
      subst this
      rw [List.getElem_append_right (by omega)]
      simpa [hl] using hx

theorem open_slice {β : Type} {R : β → List Value → Prop} {k : Nat} (hu : P.underlying t = some (.slice e)) (hk : P.cellsOf e = k) (h0 : 0 < k) (he : Opens enc P w b sp hd e R) : Opens enc P w b sp hd t (SliceOf w P e R k) := by
  intro m cs y h hs
  rcases DataW.trod_slice hu h with ⟨rfl, _⟩ | ⟨a, len, cap, elems, rest, n, _, rfl, hx, _, hlc, hcm, hlen, hel, _⟩
  · exact ⟨[], none, 0, 0, rfl, rfl, zq _, Nat.zero_le _, by simp, fun j hj => absurd hj (by simp)⟩
  · have hs' : Small P t (.slice (elems.map (·.1)) (rest.map (·.1))) := by rw [hx] at hs; exact hs
    simp only [Small, DataW.weights, hu, List.mem_cons, List.mem_append] at hs'
    have hn1 := hs' _ (.inl rfl)
    simp only [List.length_map] at hn1
    have hall := weights_all (P := P) (e := e) (l := elems.map (·.1)) fun n hn => hs' n (.inr (.inl hn))
    have hj : ∀ j, j < len → ∃ x, ∃ cs : List Value, cs.length = k ∧ (∀ i (hi : i < cs.length), w.cell? ((a.add (j * k)).add i) = some cs[i]) ∧ R x cs := by
      intro j hj
      have h1 := hel j hj
      rw [List.getElem?_eq_getElem (by omega), Option.bind_eq_some_iff] at h1
      obtain ⟨cs, h2, h3⟩ := h1
      rw [hk] at h2
      obtain ⟨h4, h5⟩ := cells_list h2
      obtain ⟨x, hx'⟩ := he n cs _ h3 (hall _ (List.mem_map.2 ⟨_, List.getElem_mem _, rfl⟩))
      exact ⟨x, cs, h4, h5, hx'⟩
    obtain ⟨l, hl, hq⟩ := choose_list hj
    refine ⟨l, some a, len, cap, rfl, hl, hlc, hcm, ?_, fun j hj => ?_⟩
    · refine Nat.le_trans (Nat.mul_le_mul_right _ ?_) hn1
      omega
    · obtain ⟨cs, h4, h5, h6⟩ := hq j hj
      obtain ⟨cs0, h40, h50, _⟩ := hq 0 (by omega)
      have hq0 := h50 0 (by omega)
      obtain ⟨b', off, spot⟩ := a
      have hspot : spot = none := by
        have := World.cell?_spot hq0
        simpa [Addr.add] using this
      subst hspot
      refine ⟨b', off, cs, rfl, h4, fun i hi => ?_, h6⟩
      have := h5 i hi
      have hadd : ((⟨b', off, none⟩ : Addr).add (j * k)).add i = ⟨b', off + j * k + i, none⟩ := by unfold Addr.add; split <;> split <;> simp_all
      rw [hadd] at this
      exact this

theorem Opens.top {β : Type} {R : β → List Value → Prop} (h : Opens enc P w b sp hd t R) {v : Value} {d : DataW H} {p : List MemPlace} (ht : DataW.Trod enc P w b sp hd t v d p) (hs : Small P t d) : ∃ x, R x v.cells.toList := by
  obtain ⟨m, hm⟩ := ht
  exact h m _ _ hm hs

theorem SlAt.lies {β : Type} {f : β → Value} {A : Option Addr} {l : List β} (h : SlAt w (fun x cs => cs = [f x]) 1 A l) : Lies f w A l := by
  intro j hj
  obtain ⟨b', off, cs, hA, _, hc, hR⟩ := h j hj
  subst hR
  refine ⟨b', off, hA, ?_⟩
  have := hc 0 (by simp)
  simpa using this
end
end Go.Proofs.YtlgmjnjhdamknaaGreat

namespace Go.Proofs.YtlgmjnjhdamknaaGreat
open Go.RowKit

theorem kit8 : EK Tryz.prog 41 5 (.int .u8 0) 1 := ⟨Tryz.underlying41, by kernel_rfl, rfl⟩
theorem one8 : ∀ x : UInt8, (u8v x).oneCell' = true := fun _ => rfl
theorem own_lower {w : World} {B B' e n : Nat} {v : Value} {xs : List Value} (h : w.ownsRow B e 1 v n xs) (hB : B' ≤ B) : w.ownsRow B' e 1 v n xs := by
  refine ⟨h.1, ?_⟩
  rcases h.2 with h' | ⟨g, cap, cur, hv, hb, rest⟩
  · exact .inl h'
  · exact .inr ⟨g, cap, cur, hv, Nat.le_trans hB hb, rest⟩
theorem own_below {w w' : World} {B e n : Nat} {v : Value} {xs : List Value} (h : w.ownsRow B e 1 v n xs) (hb : Below w.heap.size w w') : w'.ownsRow B e 1 v n xs :=
  h.kept ⟨hb.os, hb.tape, hb.output, hb.size, fun k hk _ => hb.block k hk⟩ (row := none) (by rcases h.2 with ⟨rfl, _⟩ | ⟨g, cap, cur, rfl, _⟩ <;> simp [Value.ownBlock])
theorem row_two {w : World} {g : Nat} {a b : Value} {t : TypeId} (h : w.heap[g]? = some (.cells #[a, b] t (0, 0))) :
    w.cell? ⟨g, 0, none⟩ = some a ∧ w.cell? ⟨g, 1, none⟩ = some b ∧ w.frozen? ⟨g, 0, none⟩ = false ∧ w.frozen? ⟨g, 1, none⟩ = false := by
  simp [World.cell?, World.frozen?, h]
theorem cell_later {W w' : World} (hb : Below W.heap.size W w') {p : Addr} {v : Value} (h : W.cell? p = some v) : w'.cell? p = some v :=
  (hb.cell (p := p) (World.block_lt_of_cell? W _ h)).trans h

theorem take_step {α : Type} (l k : List α) (i : Nat) (h1 : i < l.length) (h2 : i < k.length) (ht : l.take i = k.take i) (hx : l[i] = k[i]) : l.take (i + 1) = k.take (i + 1) := by
  rw [List.take_succ_eq_append_getElem h1, List.take_succ_eq_append_getElem h2, ht, hx]
section
variable {α : Type} [BEq α] [LawfulBEq α]
theorem same_no (l k : List α) (i : Nat) (h1 : i < l.length) (h2 : i < k.length) (hx : l[i] ≠ k[i]) : (l == k) = false := by
  rw [beq_eq_false_iff_ne]
  rintro rfl
  exact hx rfl
theorem same_len (l k : List α) (h : l.length ≠ k.length) : (l == k) = false := by
  rw [beq_eq_false_iff_ne]
  rintro rfl
  exact h rfl
theorem same_yes (l k : List α) (h : l.length = k.length) (ht : l.take l.length = k.take l.length) : (l == k) = true := by
  rw [beq_iff_eq]
  rwa [List.take_length, h, List.take_length] at ht
end

set_option maxRecDepth 100000 in
set_option maxHeartbeats 400000 in
theorem rsame8_any (A1 A2 : Option Addr) (n m c d : Nat) (l k : List UInt8) (hn : l.length = n) (hm : k.length = m) (hmn : n ≤ maxLen) (w : World) (h1 : Lies u8v w A1 l) (h2 : Lies u8v w A2 k) :
    Calls Tryz.prog 14 #[.slice A1 n c, .slice A2 m d] w fun e w' => e = .returned (.bool (l == k)) ∧ ∃ q, w' = w.drewN q := by
  subst hn
  subst hm
  unfold maxLen at hmn
  by_cases hlen : l.length = k.length
  · have he : ((l.length : Int) != (k.length : Int)) = false := by rw [hlen]; simp
    have HLEN := qh hlen
    have hle : l.length ≤ k.length := by omega
    clear hlen
    go_enter Tryz.func14, Tryz.ntmps14
    go_wp2
    go_loopw [5] (fun i wr => ∃ j : Nat, j ≤ l.length ∧ i = .int .i64 j ∧ l.take j = k.take j ∧ ∃ q, wr = w.drewN q) (fun i _ => l.length - (intOf i).toNat)
    case atStart => exact ⟨0, Nat.zero_le _, rfl, rfl, 0, rfl⟩
    case round =>
      obtain ⟨j, hj, rfl, ht, q, rfl⟩ := hrel
      have HT := qh ht
      clear ht
      by_cases hlt : j < l.length
      · obtain ⟨b1, o1, rfl, hc1⟩ := h1 j hlt
        have hlt2 : j < k.length := by omega
        obtain ⟨b2, o2, rfl, hc2⟩ := h2 j hlt2
        unfold u8v at hc1 hc2
        by_cases hx : l[j] = k[j]
        · have HS := qh (take_step l k j hlt hlt2 HT.out hx)
          rw [← hx] at hc2
          clear hx
          generalize l[j] = x at hc1 hc2
          go_wp2
          go_quiet (fail)
          go_wp2
          go_roundw
          case rel => exact ⟨j + 1, by omega, by go_num, HS.out, _, rfl⟩
          case measure => simp [intOf]; omega
        · have HS := qh (same_no l k j hlt hlt2 hx)
          have hne : (((l[j]).toNat : Int) != ((k[j]).toNat : Int)) = true := by
            rw [bne_iff_ne]
            intro e
            exact hx (UInt8.toNat_inj.1 (by exact_mod_cast e))
          clear hx
          generalize l[j] = x at hc1 hne
          generalize k[j] = y at hc2 hne
          go_wp2
          go_quiet (fail)
          go_wp2
          go_ret
          exact ⟨by rw [HS.out]; rfl, _, World.drewN_drewN _ _ _⟩
      · obtain rfl : j = l.length := by omega
        have HS := qh (same_yes l k HLEN.out HT.out)
        go_wp2
        go_ret
        exact ⟨by rw [HS.out]; rfl, _, rfl⟩
  · have he : ((l.length : Int) != (k.length : Int)) = true := by rw [bne_iff_ne]; omega
    have HS := qh (same_len l k hlen)
    clear hlen
    go_enter Tryz.func14, Tryz.ntmps14
    go_wp2
    go_ret
    exact ⟨by rw [HS.out]; rfl, 0, rfl⟩

end Go.Proofs.YtlgmjnjhdamknaaGreat
