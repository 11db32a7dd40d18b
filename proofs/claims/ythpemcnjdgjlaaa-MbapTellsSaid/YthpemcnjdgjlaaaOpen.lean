/-
  What comes in among a law's arguments, opened: slices of bytes, of words, of bits; an array of three words.
-/
import Derived.Test.YthpemcnjdgjlaaaRows
import Derived.Test.YthpemcnjdgjlaaaMem
import Derived.ShutString
import Derived.Below
import Derived.WalkKit
import Derived.ProofKit
import Derived.OpenShut
import Derived.ChangeOld
namespace Go.Proofs.Ythpemcnjdgjlaaa
open Go.ChangeShapes Go.WideShapes Go.ChangeAt Go.RowKit

theorem own : ownKnob Try.prog.godebug = none := by kernel_rfl
theorem laidOut : laidOutB Try.prog = true := by kernel_rfl

theorem byte_back {z : Int} (h : (Lit.int .u8 z).wf = true) : ((UInt8.ofNat z.toNat).toNat : Int) = z := by
  have := bounds_u8 h
  rw [UInt8.toNat_ofNat']
  omega
theorem word_back {z : Int} (h : (Lit.int .u16 z).wf = true) : ((UInt16.ofNat z.toNat).toNat : Int) = z := by
  have := bounds_u16 h
  rw [UInt16.toNat_ofNat']
  omega

section
variable {P : Program} {H : Type} {enc : TypeId × Value → H} {w : World} {b : Nat} {sp : Nat → Bool} {hd : Bool}

/-- What came in as a slice of whole numbers of one kind, g back from the number. -/
theorem open_nums {α : Type} (f : α → Value) (k : IntKind) (g : Int → α) (hg : ∀ z, (Lit.int k z).wf = true → f (g z) = .int k z) {A : Option Addr} {n c : Nat} {d : DataW H} {p : List MemPlace} {t e : TypeId}
    (ht : P.underlying t = some (.slice e)) (he : P.underlying e = some (.int k)) (hs : P.cellsOf e = 1) (h : DataW.Trod enc P w b sp hd t (.slice A n c) d p) :
    ∃ l : List α, l.length = n ∧ n ≤ c ∧ c ≤ maxLen ∧ Lies f w A l := by
  obtain ⟨fuel, hf⟩ := h
  rcases open_ints ht he hs hf with ⟨hcs, _⟩ | ⟨x, len, cap, zs, hcs, _, hl, hm, hz, _, hcell, hwz⟩
  · simp [Value.cells] at hcs
    obtain ⟨rfl, rfl, rfl⟩ := hcs
    exact ⟨[], rfl, Nat.le_refl _, Nat.zero_le _, Lies.nil _ _⟩
  · simp [Value.cells] at hcs
    obtain ⟨rfl, rfl, rfl⟩ := hcs
    have hzl : n ≤ zs.length := by rw [hz]; split <;> omega
    refine ⟨(zs.take n).map g, by rw [List.length_map, List.length_take]; omega, hl, hm, fun j hj => ?_⟩
    have hj' : j < n := by rw [List.length_map, List.length_take] at hj; omega
    have hcj := hcell j (by omega)
    obtain ⟨b', off, spot⟩ := x
    have hspot : spot = none := by simpa [Addr.add] using World.cell?_spot (hcell 0 (by omega))
    subst hspot
    refine ⟨b', off, rfl, ?_⟩
    have hadd : (⟨b', off, none⟩ : Addr).add j = ⟨b', off + j, none⟩ := by unfold Addr.add; split <;> simp_all
    rw [hadd] at hcj
    have hzj : zs.getD j 0 = zs[j]'(by omega) := by simp [List.getD, List.getElem?_eq_getElem (show j < zs.length by omega)]
    rw [hcj, List.getElem_map, List.getElem_take, hg _ (hwz _ (List.getElem_mem _)), hzj]
theorem open_bytes {A : Option Addr} {n c : Nat} {d : DataW H} {p : List MemPlace} {t e : TypeId} (ht : P.underlying t = some (.slice e)) (he : P.underlying e = some (.int .u8)) (hs : P.cellsOf e = 1) (h : DataW.Trod enc P w b sp hd t (.slice A n c) d p) :
    ∃ l : List UInt8, l.length = n ∧ n ≤ c ∧ c ≤ maxLen ∧ Lies u8v w A l := open_nums u8v .u8 (fun z => UInt8.ofNat z.toNat) (fun z hz => by unfold u8v; rw [byte_back hz]) ht he hs h
theorem one_cell {a : Addr} {c1 : List Value} (h : w.cells? b a 1 = some c1) : ∃ c, c1 = [c] ∧ w.cell? a = some c := by
  have e0 : a.add 0 = a := by simp [Addr.add]
  unfold World.cells? at h
  split at h
  · simp only [List.range_succ, List.range_zero, List.nil_append, List.mapM_cons, List.mapM_nil, e0] at h
    cases hcc : w.cell? a with
    | none => simp [hcc] at h
    | some c => simp [hcc] at h; exact ⟨c, h.symm, rfl⟩
  · cases h

/-- What came in as a frame: a number of 16 bits, one of eight, and a slice of bytes. -/
theorem open_frame {r : Reach} {b0 : Nat} {k e : TypeId} {f0 f1 f2 : Field} (hu : P.underlying k = some (.struct #[f0, f1, f2])) (h0 : P.underlying f0.type = some (.int .u16)) (h1 : P.underlying f1.type = some (.int .u8)) (h2 : P.underlying f2.type = some (.slice e)) (he : P.underlying e = some (.int .u8)) (hes : P.cellsOf e = 1)
    (ho0 : f0.offset = 0) (ho1 : f1.offset = 1) (ho2 : f2.offset = 2) (hc0 : P.cellsOf f0.type = 1) (hc1 : P.cellsOf f1.type = 1) (hc2 : P.cellsOf f2.type = 1) (hck : P.cellsOf k = 3) {v : Value} {d : DataW H} {p : List MemPlace} (hval : Value.okWide P w r b0 k v) (h : DataW.Trod enc P w b sp hd k v d p) :
    ∃ (t : UInt16) (u : UInt8) (A : Option Addr) (n c : Nat) (l : List UInt8), v = .agg #[u16v t, u8v u, .slice A n c] ∧ l.length = n ∧ n ≤ c ∧ c ≤ maxLen ∧ Lies u8v w A l := by
  simp only [Value.okWide, hu] at hval
  obtain ⟨cs, rfl, hcs, _⟩ := hval
  rw [hck] at hcs
  obtain ⟨fuel, hf⟩ := h
  cases fuel with
  | zero => simp [DataW.trod] at hf
  | succ m =>
    rw [DataW.trod_step] at hf
    unfold DataW.trodStep at hf
    simp only [hu, Value.cells] at hf
    rw [if_pos (by rw [hck]; simpa using hcs)] at hf
    simp only [Option.map_eq_some_iff] at hf
    obtain ⟨ys, hy, _⟩ := hf
    obtain ⟨l⟩ := cs
    match l, hcs with
    | [c0, c1, c2], _ =>
      simp only [List.mapM_cons, bind, Option.bind_eq_some_iff, ho0, ho1, ho2, hc0, hc1, hc2] at hy
      obtain ⟨y0, hy0, r0, ⟨y1, hy1, r1, ⟨y2, hy2, _⟩, _⟩, _⟩ := hy
      obtain ⟨a0, e0, _, w0⟩ := DataW.trod_int h0 hy0
      simp at e0
      subst e0
      obtain ⟨a1, e1, _, w1⟩ := DataW.trod_int h1 hy1
      simp at e1
      subst e1
      have hy2' : DataW.trod enc P w b sp hd m f2.type [c2] = some y2 := hy2
      have hslice : ∃ A n c, c2 = .slice A n c := by
        rcases DataW.trod_slice h2 hy2' with ⟨hx, _⟩ | ⟨x, len, cap, _, _, _, _, hx, _⟩
        · simp at hx; exact ⟨_, _, _, hx⟩
        · simp at hx; exact ⟨_, _, _, hx⟩
      obtain ⟨A, n, c, rfl⟩ := hslice
      obtain ⟨l, hl, hnc, hcm, hL⟩ := open_bytes (enc := enc) (b := b) (sp := sp) (hd := hd) (d := y2.1) (p := y2.2) (A := A) (n := n) (c := c) h2 he hes ⟨m, hy2'⟩
      exact ⟨UInt16.ofNat a0.toNat, UInt8.ofNat a1.toNat, A, n, c, l, by unfold u16v u8v; rw [word_back w0, byte_back w1], hl, hnc, hcm, hL⟩
end
end Go.Proofs.Ythpemcnjdgjlaaa
