
/-
  What comes in among a law's arguments, opened: a way for each kind of type, put together.
-/
import Derived.Test.YtcbkbdoaaaofjaaGreatRows
import Derived.Test.YtcbkbdoaaaofjaaGreatMem
import Derived.ShutString
import Derived.Below
import Derived.WalkKit
import Derived.ProofKit
import Derived.OpenShut
import Derived.ChangeOld
import Derived.SizedLaws
namespace Go.Proofs.YtcbkbdoaaaofjaaGreat
open Go.ChangeShapes Go.WideShapes Go.ChangeAt Go.RowKit

theorem own : ownKnob Tryz.prog.godebug = none := by kernel_rfl
theorem laidOut : laidOutB Tryz.prog = true := by kernel_rfl

/-- What was read is no greater than memory. -/
def Small {H : Type} (P : Program) (t : TypeId) (d : DataW H) : Prop := ∀ n ∈ d.weights P t, n ≤ reachBytes

/-- Cells of one thing, as a thing of β. -/
def Opens {H : Type} (enc : TypeId × Value → H) (P : Program) (w : World) (b : Nat) (sp : Nat → Bool) (hd : Bool) (t : TypeId) {β : Type} (R : β → List Value → Prop) : Prop :=
  ∀ m cs y, DataW.trod enc P w b sp hd m t cs = some y → Small P t y.1 → ∃ x, R x cs

/-- Things behind A, each of k cells. -/
def SlAt {β : Type} (w : World) (R : β → List Value → Prop) (k : Nat) (A : Option Addr) (l : List β) : Prop :=
  ∀ j (h : j < l.length), ∃ b off cs, A = some ⟨b, off, none⟩ ∧ cs.length = k ∧ (∀ i (hi : i < cs.length), w.cell? ⟨b, off + j * k + i, none⟩ = some cs[i]) ∧ R l[j] cs
def SliceOf {β : Type} (w : World) (P : Program) (e : TypeId) (R : β → List Value → Prop) (k : Nat) (l : List β) (cs : List Value) : Prop :=
  ∃ A n c, cs = [.slice A n c] ∧ l.length = n ∧ n ≤ c ∧ c ≤ maxLen ∧ n * P.bytesOf e ≤ reachBytes ∧ SlAt w R k A l

section
variable {P : Program} {H : Type} {enc : TypeId × Value → H} {w : World} {b : Nat} {sp : Nat → Bool} {hd : Bool} {t e : TypeId}

theorem cells_list {a : Addr} {k : Nat} {cs : List Value} (h : w.cells? b a k = some cs) : cs.length = k ∧ ∀ i (hi : i < cs.length), w.cell? (a.add i) = some cs[i] := by
  unfold World.cells? at h
  split at h
  · have hl := mapM_some_length h
    rw [List.length_range] at hl
    refine ⟨hl, fun i hi => ?_⟩
    have := mapM_some_get h i i (by simp [show i < k by omega])
    rw [this, List.getElem?_eq_getElem hi]
  · cases h
theorem weights_all {l : List (DataW H)} (h : ∀ n ∈ DataW.weightsAll P e l, n ≤ reachBytes) : ∀ d ∈ l, Small P e d := by
  induction l with
  | nil => intro d hd'; cases hd'
  | cons x r ih =>
    simp only [DataW.weightsAll, List.mem_append] at h
    intro d hd'
    rcases List.mem_cons.1 hd' with rfl | h1
    · exact fun n hn => h n (.inl hn)
    · exact ih (fun n hn => h n (.inr hn)) d h1
theorem small_part {fs : Array Field} (hu : P.underlying t = some (.struct fs)) {parts : List (DataW H)} (h : Small P t (.agg parts)) {j : Nat} {f : Field} {d : DataW H} (hf : fs[j]? = some f) (hp : parts[j]? = some d) : Small P f.type d := by
  intro n hn
  refine h n ?_
  simp only [DataW.weights, hu]
  exact DataW.weights_mem_each (j := j) (by simpa using ⟨f, hf, rfl⟩) hp n hn
theorem small_each {ts : List TypeId} {ds : List (DataW H)} (h : (DataW.weightsEach P ts ds).all (· ≤ reachBytes) = true) {j : Nat} {d : DataW H} (ht : ts[j]? = some t) (hp : ds[j]? = some d) : Small P t d := by
  intro n hn
  have := List.all_eq_true.1 h _ (DataW.weights_mem_each ht hp n hn)
  simpa using this

theorem open_u8 (hu : P.underlying t = some (.int .u8)) : Opens enc P w b sp hd t (fun (x : UInt8) cs => cs = [u8v x]) := by
  intro m cs y h _
  obtain ⟨n, rfl, _, hw⟩ := DataW.trod_int hu h
  have := bounds_u8 hw
  refine ⟨UInt8.ofNat n.toNat, ?_⟩
  show [Value.int .u8 n] = [.int .u8 ((UInt8.ofNat n.toNat).toNat : Int)]
  rw [show ((UInt8.ofNat n.toNat).toNat : Int) = n by rw [UInt8.toNat_ofNat']; omega]
theorem open_u16 (hu : P.underlying t = some (.int .u16)) : Opens enc P w b sp hd t (fun (x : UInt16) cs => cs = [u16v x]) := by
  intro m cs y h _
  obtain ⟨n, rfl, _, hw⟩ := DataW.trod_int hu h
  have := bounds_u16 hw
  refine ⟨UInt16.ofNat n.toNat, ?_⟩
  show [Value.int .u16 n] = [.int .u16 ((UInt16.ofNat n.toNat).toNat : Int)]
  rw [show ((UInt16.ofNat n.toNat).toNat : Int) = n by rw [UInt16.toNat_ofNat']; omega]
theorem open_i64 (hu : P.underlying t = some (.int .i64)) : Opens enc P w b sp hd t (fun (x : Int) cs => cs = [.int .i64 x] ∧ -9223372036854775808 ≤ x ∧ x ≤ 9223372036854775807) := by
  intro m cs y h _
  obtain ⟨n, rfl, _, hw⟩ := DataW.trod_int hu h
  have := bounds_i64 hw
  exact ⟨n, rfl, by omega, by omega⟩
theorem open_bit (hu : P.underlying t = some .bool) : Opens enc P w b sp hd t (fun (x : Bool) cs => cs = [.bool x]) := by
  intro m cs y h _
  obtain ⟨x, rfl, _⟩ := DataW.trod_bool hu h
  exact ⟨x, rfl⟩

/-- A list of what each index gives. -/
theorem choose_list {β : Type} {n : Nat} {Q : Nat → β → Prop} (h : ∀ j, j < n → ∃ x, Q j x) : ∃ l : List β, l.length = n ∧ ∀ j (hj : j < l.length), Q j l[j] := by
  induction n with
  | zero => exact ⟨[], rfl, fun j hj => absurd hj (by simp)⟩
  | succ n ih =>
    obtain ⟨l, hl, hq⟩ := ih fun j hj => h j (by omega)
    obtain ⟨x, hx⟩ := h n (by omega)
    refine ⟨l ++ [x], by simp [hl], fun j hj => ?_⟩
    by_cases hjn : j < l.length
    · rw [List.getElem_append_left hjn]; exact hq j hjn
    · have : j = n := by simp at hj; omega
      subst this
      rw [List.getElem_append_right (by omega)]
      simpa [hl] using hx

theorem open_slice {β : Type} {R : β → List Value → Prop} {k : Nat} (hu : P.underlying t = some (.slice e)) (hk : P.cellsOf e = k) (h0 : 0 < k) (he : Opens enc P w b sp hd e R) : Opens enc P w b sp hd t (SliceOf w P e R k) := by
  intro m cs y h hs
  rcases DataW.trod_slice hu h with ⟨rfl, _⟩ | ⟨a, len, cap, elems, rest, n, _, rfl, hx, _, hlc, hcm, hlen, hel, _⟩
  · exact ⟨[], none, 0, 0, rfl, rfl, Nat.le_refl _, Nat.zero_le _, by simp, fun j hj => absurd hj (by simp)⟩
  · have hs' : Small P t (.slice (elems.map (·.1)) (rest.map (·.1))) := by rw [hx] at hs; exact hs
    simp only [Small, DataW.weights, hu, List.mem_cons, List.mem_append] at hs'
    have hn1 := hs' _ (.inl rfl)
    simp only [List.length_map] at hn1
    have hall := weights_all (P := P) (e := e) (l := elems.map (·.1)) fun n hn => hs' n (.inr (.inl hn))
    have hj : ∀ j, j < len → ∃ x, ∃ cs : List Value, cs.length = k ∧ (∀ i (hi : i < cs.length), w.cell? ((a.add (j * k)).add i) = some cs[i]) ∧ R x cs := by
      intro j hj
      have h1 := hel j hj
      rw [List.getElem?_eq_getElem (by omega), Option.bind_eq_some_iff] at h1
      obtain ⟨cs, h2, h3⟩ := h1
      rw [hk] at h2
      obtain ⟨h4, h5⟩ := cells_list h2
      obtain ⟨x, hx'⟩ := he n cs _ h3 (hall _ (List.mem_map.2 ⟨_, List.getElem_mem _, rfl⟩))
      exact ⟨x, cs, h4, h5, hx'⟩
    obtain ⟨l, hl, hq⟩ := choose_list hj
    refine ⟨l, some a, len, cap, rfl, hl, hlc, hcm, ?_, fun j hj => ?_⟩
    · refine Nat.le_trans (Nat.mul_le_mul_right _ ?_) hn1
      omega
    · obtain ⟨cs, h4, h5, h6⟩ := hq j hj
      obtain ⟨cs0, h40, h50, _⟩ := hq 0 (by omega)
      have hq0 := h50 0 (by omega)
      obtain ⟨b', off, spot⟩ := a
      have hspot : spot = none := by
        have := World.cell?_spot hq0
        simpa [Addr.add] using this
      subst hspot
      refine ⟨b', off, cs, rfl, h4, fun i hi => ?_, h6⟩
      have := h5 i hi
      have hadd : ((⟨b', off, none⟩ : Addr).add (j * k)).add i = ⟨b', off + j * k + i, none⟩ := by unfold Addr.add; split <;> split <;> simp_all
      rw [hadd] at this
      exact this

theorem Opens.top {β : Type} {R : β → List Value → Prop} (h : Opens enc P w b sp hd t R) {v : Value} {d : DataW H} {p : List MemPlace} (ht : DataW.Trod enc P w b sp hd t v d p) (hs : Small P t d) : ∃ x, R x v.cells.toList := by
  obtain ⟨m, hm⟩ := ht
  exact h m _ _ hm hs

/-- Of one cell each: what lies there. -/
theorem SlAt.lies {β : Type} {f : β → Value} {A : Option Addr} {l : List β} (h : SlAt w (fun x cs => cs = [f x]) 1 A l) : Lies f w A l := by
  intro j hj
  obtain ⟨b', off, cs, hA, _, hc, hR⟩ := h j hj
  subst hR
  refine ⟨b', off, hA, ?_⟩
  have := hc 0 (by simp)
  simpa using this
theorem SlAt.imp {β : Type} {R S : β → List Value → Prop} {k : Nat} {A : Option Addr} {l : List β} (h : SlAt w R k A l) (hi : ∀ x cs, R x cs → S x cs) : SlAt w S k A l := by
  intro j hj
  obtain ⟨b', off, cs, h1, h2, h3, h4⟩ := h j hj
  exact ⟨b', off, cs, h1, h2, h3, hi _ _ h4⟩
end
end Go.Proofs.YtcbkbdoaaaofjaaGreat
