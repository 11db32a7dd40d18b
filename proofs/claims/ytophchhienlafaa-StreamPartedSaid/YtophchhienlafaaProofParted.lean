/- THE LAW StreamParted HOLDS: for every slice of bytes and every slice of numbers the call answers true, and what came in reads as before. No condition. -/
import Derived.Test.YtophchhienlafaaOpnF
import Derived.Test.YtophchhienlafaaParted
namespace Go.Proofs.Ytophchhienlafaa.streamParted
open Go.ChangeShapes Go.WideShapes Go.ChangeAt Go.RowKit

set_option maxRecDepth 100000 in
set_option maxHeartbeats 2000000 in
theorem lifted (os : Os) (started : os.Started) (H : Type) (enc : TypeId × Value → H) :
    ReturnsInHanded {} Try.checked os 4 .any (Rows.streamPartedSpec.pre6 enc Try.prog Try.f4 Rows.streamPartedRow.domain false) (Rows.streamPartedSpec.post enc Try.prog Try.f4 false true false false) := by
  refine returnsInHanded_of_change_sized (C := Try.checked) own started (by kernel_rfl) Try.func4
    (ChangeSpec.witness6 (enc := enc) (C := Try.checked) false ⟨#[], #[.slice none 0 0, .slice none 0 0], []⟩ 8 (by kernel_rfl) (by kernel_rfl) (by kernel_rfl) (by kernel_rfl)) ?_
  intro W base args ds gs before hval0 hW hcnd hz _
  have hval : ∀ (j : Nat) t v, Try.f4.params[j]? = some t → args[j]? = some v → Value.okWide Try.prog W .any base t v := hval0
  have hW' := hW
  obtain ⟨p, q, hA0, hV, rfl, hfz, hnd⟩ := hW
  have hA : DataW.TrodAll enc Try.prog W 0 (fun _ => true) true Try.f4.params.toList args.toList ds p := hA0
  rw [Try.params4] at hA hval hz
  obtain ⟨v0, vs0, d0, ds0, p0, q0, hargs, rfl, rfl, h0, r0⟩ := trodAll_cons hA
  obtain ⟨v1, vs1, d1, ds1, p1, q1, rfl, rfl, rfl, h1, r1⟩ := trodAll_cons r0
  obtain ⟨rfl, rfl, rfl⟩ := trodAll_nil r1
  obtain rfl : args = #[v0, v1] := by cases args; simp_all
  obtain ⟨rfl, rfl⟩ := trodVars_none hV
  have k0 := h0
  have lt0 : ∀ x ∈ p0, x.block < W.heap.size := by obtain ⟨m, hm⟩ := k0; exact DataW.trod_lt m _ _ _ hm
  have hs0 : Small Try.prog 24 d0 := small_each hz (j := 0) rfl rfl
  obtain ⟨A, n, c, rfl⟩ := okWide_slice Try.underlying24 (hval 0 24 v0 rfl rfl)
  have k1 := h1
  have lt1 : ∀ x ∈ p1, x.block < W.heap.size := by obtain ⟨m, hm⟩ := k1; exact DataW.trod_lt m _ _ _ hm
  have hs1 : Small Try.prog 41 d1 := small_each hz (j := 1) rfl rfl
  obtain ⟨B, m, d, rfl⟩ := okWide_slice Try.underlying41 (hval 1 41 v1 rfl rfl)
  obtain ⟨l0, A', n', c', e0, hn0, hc0, hm0, hb0, hl0⟩ := Opens.top (open_bytes5 Try.underlying24 Try.underlying5 (by kernel_rfl) (by kernel_rfl)) h0 hs0
  obtain ⟨rfl, rfl, rfl⟩ : A = A' ∧ n = n' ∧ c = c' := by simpa [Value.cells] using e0
  have el1 : Opens enc Try.prog W 0 (fun _ => true) true 3 (fun (x : Int) cs => cs = [.int .i64 x] ∧ -9223372036854775808 ≤ x ∧ x ≤ 9223372036854775807) := (open_i64 Try.underlying3)
  obtain ⟨l1, A', n', c', e1, hn1, hc1, hm1, hb1, hl1⟩ := Opens.top (open_slice (k := 1) Try.underlying41 (by kernel_rfl) (by omega) el1) h1 hs1
  obtain ⟨rfl, rfl, rfl⟩ : B = A' ∧ m = n' ∧ d = c' := by simpa [Value.cells] using e1
  have hl1' := SlAt.lies (f := i64v) (hl1.imp fun x cs h => h.1)
  clear hA0 hval0
  refine (parted_any A B n c m d l0 l1 hn0 hn1 hc0 (Nat.le_trans hc0 hm0) (Nat.le_trans hc1 hm1) W hl0 hl1').mono fun e W' ⟨he, bel⟩ => ?_
  subst he
  exact ⟨_, rfl, _, _, _, [], _, [], hW', trodAll_mk1 (shut_bool Try.underlying4 _), (trodAll_cons_mk (Below.trod laidOut (by kernel_rfl) (of_decide_eq_true (by kernel_rfl)) k0 bel lt0) (trodAll_cons_mk (Below.trod laidOut (by kernel_rfl) (of_decide_eq_true (by kernel_rfl)) k1 bel lt1) trodAll_mk0)), rfl, bel.frame _, fun h => by cases h⟩

theorem holds : Rows.StreamPartedSaid :=
  OpenClaim.holds_of_wide 4 Try.f4 rfl rfl rfl rfl rfl rfl rfl ⟨rfl, rfl, rfl, rfl, rfl⟩ rfl rfl rfl rfl rfl (by kernel_rfl) Try.func4 (by kernel_rfl)
    (of_decide_eq_true (by kernel_rfl)) (by unfold Func.isWrapper; first | (rw [if_pos (by decide +kernel)]; kernel_rfl) | (rw [if_neg (by decide +kernel)]; exact ⟨rfl, rfl⟩))
    (fun os started H enc _ => lifted os started H enc)
#print axioms holds
end Go.Proofs.Ytophchhienlafaa.streamParted
