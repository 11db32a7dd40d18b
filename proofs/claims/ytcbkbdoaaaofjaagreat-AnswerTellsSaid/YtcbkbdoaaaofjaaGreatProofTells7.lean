
/- THE LAW AnswerTells HOLDS: for every request, every two answers and every slice of bytes (nil, empty, of any length) the call answers true, and what came in reads as before. No condition. -/
import Derived.Test.YtcbkbdoaaaofjaaGreatOpnA
import Derived.Test.YtcbkbdoaaaofjaaGreatTells7
namespace Go.Proofs.YtcbkbdoaaaofjaaGreat.answerTells
open Go.ChangeShapes Go.WideShapes Go.ChangeAt Go.RowKit

set_option maxRecDepth 100000 in
set_option maxHeartbeats 2000000 in
theorem lifted (os : Os) (started : os.Started) (H : Type) (enc : TypeId × Value → H) :
    ReturnsInHanded {} Tryz.checked os 3 .any (Rows.answerTellsSpec.pre6 enc Tryz.prog Tryz.f3 Rows.answerTellsRow.domain false) (Rows.answerTellsSpec.post enc Tryz.prog Tryz.f3 false true false false) := by
  refine returnsInHanded_of_change_sized (C := Tryz.checked) own started (by kernel_rfl) Tryz.func3
    (ChangeSpec.witness6 (enc := enc) (C := Tryz.checked) false ⟨#[], #[.agg #[.int .i64 0, .int .i64 0, .int .i64 0, .int .i64 0, .slice none 0 0, .slice none 0 0, .int .u16 0, .int .u16 0], .agg #[.int .i64 0, .slice none 0 0, .slice none 0 0, .slice none 0 0, .int .i64 0, .slice none 0 0, .slice none 0 0, .slice none 0 0], .slice none 0 0], []⟩ 8 (by kernel_rfl) (by kernel_rfl) (by kernel_rfl) (by kernel_rfl)) ?_
  intro W base args ds gs before hval0 hW hcnd hz _
  have hval : ∀ (j : Nat) t v, Tryz.f3.params[j]? = some t → args[j]? = some v → Value.okWide Tryz.prog W .any base t v := hval0
  have hW' := hW
  obtain ⟨p, q, hA0, hV, rfl, hfz, hnd⟩ := hW
  have hA : DataW.TrodAll enc Tryz.prog W 0 (fun _ => true) true Tryz.f3.params.toList args.toList ds p := hA0
  rw [Tryz.params3] at hA hval hz
  obtain ⟨v0, vs0, d0, ds0, p0, q0, hargs, rfl, rfl, h0, r0⟩ := trodAll_cons hA
  obtain ⟨v1, vs1, d1, ds1, p1, q1, rfl, rfl, rfl, h1, r1⟩ := trodAll_cons r0
  obtain ⟨v2, vs2, d2, ds2, p2, q2, rfl, rfl, rfl, h2, r2⟩ := trodAll_cons r1
  obtain ⟨rfl, rfl, rfl⟩ := trodAll_nil r2
  obtain rfl : args = #[v0, v1, v2] := by cases args; simp_all
  obtain ⟨rfl, rfl⟩ := trodVars_none hV
  have k0 := h0
  have lt0 : ∀ x ∈ p0, x.block < W.heap.size := by obtain ⟨m, hm⟩ := k0; exact DataW.trod_lt m _ _ _ hm
  have hs0 : Small Tryz.prog 26 d0 := small_each hz (j := 0) rfl rfl
  have k1 := h1
  have lt1 : ∀ x ∈ p1, x.block < W.heap.size := by obtain ⟨m, hm⟩ := k1; exact DataW.trod_lt m _ _ _ hm
  have hs1 : Small Tryz.prog 30 d1 := small_each hz (j := 1) rfl rfl
  have k2 := h2
  have lt2 : ∀ x ∈ p2, x.block < W.heap.size := by obtain ⟨m, hm⟩ := k2; exact DataW.trod_lt m _ _ _ hm
  have hs2 : Small Tryz.prog 31 d2 := small_each hz (j := 2) rfl rfl
  obtain ⟨B, n, c, rfl⟩ := okWide_slice Tryz.underlying31 (hval 2 31 v2 rfl rfl)
  obtain ⟨cs0, hv0⟩ := agg_of Tryz.underlying26 (hval 0 26 v0 rfl rfl)
  have el0 : Opens enc Tryz.prog W 0 (fun _ => true) true 26 (RAsk W) := open_ask Tryz.underlying26 Tryz.underlying3 Tryz.underlying3 Tryz.underlying3 Tryz.underlying3 Tryz.underlying22 Tryz.underlying23 Tryz.underlying24 Tryz.underlying24 Tryz.underlying24 Tryz.underlying4 (by kernel_rfl) (by kernel_rfl) rfl (by kernel_rfl) rfl (by kernel_rfl) rfl (by kernel_rfl) rfl (by kernel_rfl) rfl (by kernel_rfl) rfl (by kernel_rfl) rfl (by kernel_rfl) rfl (by kernel_rfl) (by kernel_rfl)
  obtain ⟨a, ha, ka, e0, ina, numsa⟩ := Opens.top el0 h0 hs0
  have hw0 : v0 = askV a ha ka := by rw [e0, hv0]; simp [Value.cells]
  clear hv0 e0
  subst hw0
  obtain ⟨cs1, hv1⟩ := agg_two Tryz.underlying30 (hval 1 30 v1 rfl rfl)
  have el1 : Opens enc Tryz.prog W 0 (fun _ => true) true 29 (RAns W) := open_ans Tryz.underlying29 Tryz.underlying3 Tryz.underlying23 Tryz.underlying22 Tryz.underlying27 Tryz.underlying24 Tryz.underlying4 Tryz.underlying9 (by kernel_rfl) (by kernel_rfl) (by kernel_rfl) rfl (by kernel_rfl) rfl (by kernel_rfl) rfl (by kernel_rfl) rfl (by kernel_rfl) (by kernel_rfl)
  obtain ⟨⟨x, y⟩, d1', d2', e1, ⟨hx, kx, tx, f1, inx⟩, ⟨hy, ky, ty, f2, iny⟩⟩ := Opens.top (open_two (k := 4) Tryz.underlying30 (by kernel_rfl) (by kernel_rfl) el1) h1 hs1
  dsimp only at f1 f2 inx iny
  have hw1 := two_agg (cs := cs1) (by rw [hv1] at e1; simpa [Value.cells] using e1) f1 f2
  rw [← hv1] at hw1
  clear hv1 e1 f1 f2
  subst hw1
  have el2 : Opens enc Tryz.prog W 0 (fun _ => true) true 5 (fun (x : UInt8) cs => cs = [u8v x]) := (open_u8 Tryz.underlying5)
  obtain ⟨l2, A', n', c', e2, hn2, hc2, hm2, hb2, hl2⟩ := Opens.top (open_slice (k := 1) Tryz.underlying31 (by kernel_rfl) (by omega) el2) h2 hs2
  obtain ⟨rfl, rfl, rfl⟩ : B = A' ∧ n = n' ∧ c = c' := by simpa [Value.cells] using e2
  clear hA0 hval0
  refine (tells7_law_any a ha ka x y hx kx tx hy ky ty B n c l2 hn2 hc2 hm2 W ina inx iny hl2.lies).mono fun e W' ⟨he, bel⟩ => ?_
  subst he
  exact ⟨_, rfl, _, _, _, [], _, [], hW', trodAll_mk1 (shut_bool Tryz.underlying4 _), (trodAll_cons_mk (Below.trod laidOut (by kernel_rfl) (of_decide_eq_true (by kernel_rfl)) k0 bel lt0) (trodAll_cons_mk (Below.trod laidOut (by kernel_rfl) (of_decide_eq_true (by kernel_rfl)) k1 bel lt1) (trodAll_cons_mk (Below.trod laidOut (by kernel_rfl) (of_decide_eq_true (by kernel_rfl)) k2 bel lt2) trodAll_mk0))), rfl, bel.frame _, fun h => by cases h⟩

theorem holds : Rows.AnswerTellsSaid :=
  OpenClaim.holds_of_wide 3 Tryz.f3 rfl rfl rfl rfl rfl rfl rfl ⟨rfl, rfl, rfl, rfl, rfl⟩ rfl rfl rfl rfl rfl (by kernel_rfl) Tryz.func3 (by kernel_rfl)
    (of_decide_eq_true (by kernel_rfl)) (by unfold Func.isWrapper; first | (rw [if_pos (by decide +kernel)]; kernel_rfl) | (rw [if_neg (by decide +kernel)]; exact ⟨rfl, rfl⟩))
    (fun os started H enc _ => lifted os started H enc)
#print axioms holds
end Go.Proofs.YtcbkbdoaaaofjaaGreat.answerTells
