/-
  What comes in among a law's arguments, opened: slices of bytes, of words, of bits; an array of three words.
-/
import Derived.Test.YtglejgfmdgjijaaRows
import Derived.Test.YtglejgfmdgjijaaMem
import Derived.ShutString
import Derived.Below
import Derived.WalkKit
import Derived.ProofKit
import Derived.OpenShut
import Derived.ChangeOld
namespace Go.Proofs.Ytglejgfmdgjijaa
open Go.ChangeShapes Go.WideShapes Go.ChangeAt Go.RowKit

theorem own : ownKnob Try.prog.godebug = none := by kernel_rfl
theorem laidOut : laidOutB Try.prog = true := by kernel_rfl

theorem byte_back {z : Int} (h : (Lit.int .u8 z).wf = true) : ((UInt8.ofNat z.toNat).toNat : Int) = z := by
  have := bounds_u8 h
  rw [UInt8.toNat_ofNat']
  omega
theorem word_back {z : Int} (h : (Lit.int .u16 z).wf = true) : ((UInt16.ofNat z.toNat).toNat : Int) = z := by
  have := bounds_u16 h
  rw [UInt16.toNat_ofNat']
  omega

section
variable {P : Program} {H : Type} {enc : TypeId × Value → H} {w : World} {b : Nat} {sp : Nat → Bool} {hd : Bool}

/-- What came in as a slice of whole numbers of one kind, g back from the number. -/
theorem open_nums {α : Type} (f : α → Value) (k : IntKind) (g : Int → α) (hg : ∀ z, (Lit.int k z).wf = true → f (g z) = .int k z) {A : Option Addr} {n c : Nat} {d : DataW H} {p : List MemPlace} {t e : TypeId}
    (ht : P.underlying t = some (.slice e)) (he : P.underlying e = some (.int k)) (hs : P.cellsOf e = 1) (h : DataW.Trod enc P w b sp hd t (.slice A n c) d p) :
    ∃ l : List α, l.length = n ∧ n ≤ c ∧ c ≤ maxLen ∧ Lies f w A l := by
  obtain ⟨fuel, hf⟩ := h
  rcases open_ints ht he hs hf with ⟨hcs, _⟩ | ⟨x, len, cap, zs, hcs, _, hl, hm, hz, _, hcell, hwz⟩
  · simp [Value.cells] at hcs
    obtain ⟨rfl, rfl, rfl⟩ := hcs
    exact ⟨[], rfl, Nat.le_refl _, Nat.zero_le _, Lies.nil _ _⟩
  · simp [Value.cells] at hcs
    obtain ⟨rfl, rfl, rfl⟩ := hcs
    have hzl : n ≤ zs.length := by rw [hz]; split <;> omega
    refine ⟨(zs.take n).map g, by rw [List.length_map, List.length_take]; omega, hl, hm, fun j hj => ?_⟩
    have hj' : j < n := by rw [List.length_map, List.length_take] at hj; omega
    have hcj := hcell j (by omega)
    obtain ⟨b', off, spot⟩ := x
    have hspot : spot = none := by simpa [Addr.add] using World.cell?_spot (hcell 0 (by omega))
    subst hspot
    refine ⟨b', off, rfl, ?_⟩
    have hadd : (⟨b', off, none⟩ : Addr).add j = ⟨b', off + j, none⟩ := by unfold Addr.add; split <;> simp_all
    rw [hadd] at hcj
    have hzj : zs.getD j 0 = zs[j]'(by omega) := by simp [List.getD, List.getElem?_eq_getElem (show j < zs.length by omega)]
    rw [hcj, List.getElem_map, List.getElem_take, hg _ (hwz _ (List.getElem_mem _)), hzj]
theorem open_bytes {A : Option Addr} {n c : Nat} {d : DataW H} {p : List MemPlace} {t e : TypeId} (ht : P.underlying t = some (.slice e)) (he : P.underlying e = some (.int .u8)) (hs : P.cellsOf e = 1) (h : DataW.Trod enc P w b sp hd t (.slice A n c) d p) :
    ∃ l : List UInt8, l.length = n ∧ n ≤ c ∧ c ≤ maxLen ∧ Lies u8v w A l := open_nums u8v .u8 (fun z => UInt8.ofNat z.toNat) (fun z hz => by unfold u8v; rw [byte_back hz]) ht he hs h
theorem open_words {A : Option Addr} {n c : Nat} {d : DataW H} {p : List MemPlace} {t e : TypeId} (ht : P.underlying t = some (.slice e)) (he : P.underlying e = some (.int .u16)) (hs : P.cellsOf e = 1) (h : DataW.Trod enc P w b sp hd t (.slice A n c) d p) :
    ∃ l : List UInt16, l.length = n ∧ n ≤ c ∧ c ≤ maxLen ∧ Lies u16v w A l := open_nums u16v .u16 (fun z => UInt16.ofNat z.toNat) (fun z hz => by unfold u16v; rw [word_back hz]) ht he hs h

theorem one_cell {a : Addr} {c1 : List Value} (h : w.cells? b a 1 = some c1) : ∃ c, c1 = [c] ∧ w.cell? a = some c := by
  have e0 : a.add 0 = a := by simp [Addr.add]
  unfold World.cells? at h
  split at h
  · simp only [List.range_succ, List.range_zero, List.nil_append, List.mapM_cons, List.mapM_nil, e0] at h
    cases hcc : w.cell? a with
    | none => simp [hcc] at h
    | some c => simp [hcc] at h; exact ⟨c, h.symm, rfl⟩
  · cases h

/-- What came in as a slice of bits. -/
theorem open_bits {A : Option Addr} {n c : Nat} {d : DataW H} {p : List MemPlace} {t e : TypeId} (ht : P.underlying t = some (.slice e)) (he : P.underlying e = some .bool) (hs : P.cellsOf e = 1) (h : DataW.Trod enc P w b sp hd t (.slice A n c) d p) :
    ∃ l : List Bool, l.length = n ∧ n ≤ c ∧ c ≤ maxLen ∧ Lies bitv w A l := by
  obtain ⟨fuel, hf⟩ := h
  rcases DataW.trod_slice ht hf with ⟨hcs, _⟩ | ⟨x, len, cap, elems, rest, m, _, hcs, _, _, hl, hm, hlen, hel, _⟩
  · simp [Value.cells] at hcs
    obtain ⟨rfl, rfl, rfl⟩ := hcs
    exact ⟨[], rfl, Nat.le_refl _, Nat.zero_le _, Lies.nil _ _⟩
  · simp [Value.cells] at hcs
    obtain ⟨rfl, rfl, rfl⟩ := hcs
    have each : ∀ i, i < n → ∃ v : Bool, w.cell? (x.add i) = some (.bool v) := by
      intro i hi
      have hE := hel i hi
      rw [hs, Nat.mul_one, List.getElem?_eq_getElem (by omega), Option.bind_eq_some_iff] at hE
      obtain ⟨c1, hc1, hy⟩ := hE
      obtain ⟨c, rfl, hc⟩ := one_cell hc1
      obtain ⟨v, hv, _⟩ := DataW.trod_bool he hy
      simp only [List.cons.injEq, and_true] at hv
      subst hv
      exact ⟨v, hc⟩
    rcases Nat.eq_zero_or_pos n with rfl | hpos
    · exact ⟨[], rfl, hl, hm, Lies.nil _ _⟩
    · obtain ⟨b', off, spot⟩ := x
      obtain ⟨v0, hv0⟩ := each 0 hpos
      have hspot : spot = none := by simpa [Addr.add] using World.cell?_spot hv0
      subst hspot
      refine ⟨(List.range n).map fun i => (match w.cell? ((⟨b', off, none⟩ : Addr).add i) with | some (.bool v) => v | _ => false), by simp, hl, hm, Lies.of_row fun j hj => ?_⟩
      have hj' : j < n := by simpa using hj
      have hadd : (⟨b', off, none⟩ : Addr).add j = ⟨b', off + j, none⟩ := by unfold Addr.add; split <;> simp_all
      obtain ⟨v, hv⟩ := each j hj'
      rw [List.getElem_map, List.getElem_range, hv]
      rw [hadd] at hv
      rw [hv]
/-- What came in as an array of three words. -/
theorem open_three {r : Reach} {b0 : Nat} {k e : TypeId} (hu : P.underlying k = some (.array 3 e)) (he : P.underlying e = some (.int .u16)) (h1 : P.cellsOf e = 1) (h3 : P.cellsOf k = 3) {v : Value} {d : DataW H} {p : List MemPlace}
    (hval : Value.okWide P w r b0 k v) (h : DataW.Trod enc P w b sp hd k v d p) : ∃ x y z : UInt16, v = .agg #[u16v x, u16v y, u16v z] := by
  simp only [Value.okWide, hu] at hval
  obtain ⟨cs, rfl, hcs, _⟩ := hval
  rw [h3] at hcs
  obtain ⟨fuel, hf⟩ := h
  cases fuel with
  | zero => simp [DataW.trod] at hf
  | succ m =>
    rw [DataW.trod_step] at hf
    unfold DataW.trodStep at hf
    simp only [hu, Value.cells] at hf
    rw [if_pos (by rw [h3]; simpa using hcs)] at hf
    simp only [Option.map_eq_some_iff] at hf
    obtain ⟨ys, hy, _⟩ := hf
    obtain ⟨l⟩ := cs
    match l, hcs with
    | [c0, c1, c2], _ =>
      rw [h1] at hy
      simp only [show List.range 3 = [0, 1, 2] from rfl, List.mapM_cons, bind, Option.bind_eq_some_iff] at hy
      obtain ⟨y0, hy0, r0, ⟨y1, hy1, r1, ⟨y2, hy2, _⟩, _⟩, _⟩ := hy
      obtain ⟨a0, e0, _, w0⟩ := DataW.trod_int he hy0
      obtain ⟨a1, e1, _, w1⟩ := DataW.trod_int he hy1
      obtain ⟨a2, e2, _, w2⟩ := DataW.trod_int he hy2
      simp at e0 e1 e2
      subst e0
      subst e1
      subst e2
      exact ⟨UInt16.ofNat a0.toNat, UInt16.ofNat a1.toNat, UInt16.ofNat a2.toNat, by unfold u16v; rw [word_back w0, word_back w1, word_back w2]⟩
end
end Go.Proofs.Ytglejgfmdgjijaa
