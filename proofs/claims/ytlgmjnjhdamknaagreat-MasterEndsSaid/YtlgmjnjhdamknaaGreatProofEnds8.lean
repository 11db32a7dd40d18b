
/- THE LAW MasterEnds HOLDS: for every configuration, every request and whatever bytes come the call answers true, and what came in reads as before. No condition. -/
import Derived.Test.YtlgmjnjhdamknaaGreatAn
import Derived.Test.YtlgmjnjhdamknaaGreatOpnN
namespace Go.Proofs.YtlgmjnjhdamknaaGreat.masterEnds
open Go.ChangeShapes Go.WideShapes Go.ChangeAt Go.RowKit

set_option maxRecDepth 100000 in
set_option maxHeartbeats 2000000 in
theorem lifted (os : Os) (started : os.Started) (H : Type) (enc : TypeId × Value → H) :
    ReturnsInHanded {} Tryz.checked os 4 .any (Rows.masterEndsSpec.pre6 enc Tryz.prog Tryz.f4 Rows.masterEndsRow.domain false) (Rows.masterEndsSpec.post enc Tryz.prog Tryz.f4 false true false false) := by
  refine returnsInHanded_of_change_sized (C := Tryz.checked) own started (by kernel_rfl) Tryz.func4
    (ChangeSpec.witness6 (enc := enc) (C := Tryz.checked) false ⟨#[], #[.agg #[.int .u8 0, .int .i64 0, .int .i64 0, .int .i64 0], .agg #[.int .i64 0, .int .i64 0, .int .i64 0, .int .i64 0, .slice none 0 0, .slice none 0 0, .int .u16 0, .int .u16 0], .slice none 0 0], []⟩ 8 (by kernel_rfl) (by kernel_rfl) (by kernel_rfl) (by kernel_rfl)) ?_
  intro W base args ds gs before hval0 hW hcnd hz _
  have hval : ∀ (j : Nat) t v, Tryz.f4.params[j]? = some t → args[j]? = some v → Value.okWide Tryz.prog W .any base t v := hval0
  have hW' := hW
  obtain ⟨p, q, hA0, hV, rfl, hfz, hnd⟩ := hW
  have hA : DataW.TrodAll enc Tryz.prog W 0 (fun _ => true) true Tryz.f4.params.toList args.toList ds p := hA0
  rw [Tryz.params4] at hA hval hz
  obtain ⟨v0, vs0, d0, ds0, p0, q0, hargs, rfl, rfl, h0, r0⟩ := trodAll_cons hA
  obtain ⟨v1, vs1, d1, ds1, p1, q1, rfl, rfl, rfl, h1, r1⟩ := trodAll_cons r0
  obtain ⟨v2, vs2, d2, ds2, p2, q2, rfl, rfl, rfl, h2, r2⟩ := trodAll_cons r1
  obtain ⟨rfl, rfl, rfl⟩ := trodAll_nil r2
  obtain rfl : args = #[v0, v1, v2] := by cases args; simp_all
  obtain ⟨rfl, rfl⟩ := trodVars_none hV
  have k0 := h0
  have lt0 : ∀ x ∈ p0, x.block < W.heap.size := by obtain ⟨m, hm⟩ := k0; exact DataW.trod_lt m _ _ _ hm
  have hs0 : Small Tryz.prog 23 d0 := small_each hz (j := 0) rfl rfl
  have k1 := h1
  have lt1 : ∀ x ∈ p1, x.block < W.heap.size := by obtain ⟨m, hm⟩ := k1; exact DataW.trod_lt m _ _ _ hm
  have hs1 : Small Tryz.prog 40 d1 := small_each hz (j := 1) rfl rfl
  have k2 := h2
  have lt2 : ∀ x ∈ p2, x.block < W.heap.size := by obtain ⟨m, hm⟩ := k2; exact DataW.trod_lt m _ _ _ hm
  have hs2 : Small Tryz.prog 63 d2 := small_each hz (j := 2) rfl rfl
  obtain ⟨cs0, hv0⟩ := agg_of Tryz.underlying23 (hval 0 23 v0 rfl rfl)
  have el0 : Opens enc Tryz.prog W 0 (fun _ => true) true 23 (fun (c : UInt8 × Int × Int × Int) cs => RCfg cs c) := open_cfg Tryz.underlying23 Tryz.underlying5 Tryz.underlying3 Tryz.underlying3 Tryz.underlying3 rfl (by kernel_rfl) rfl (by kernel_rfl) rfl (by kernel_rfl) rfl (by kernel_rfl) (by kernel_rfl)
  obtain ⟨⟨u, g, f, t⟩, e0⟩ := Opens.top el0 h0 hs0
  have hw0 : v0 = .agg #[u8v u, .int .i64 g, .int .i64 f, .int .i64 t] := by
    have e0 : v0.cells.toList = [u8v u, .int .i64 g, .int .i64 f, .int .i64 t] := e0
    rw [hv0] at e0 ⊢
    have : cs0.toList = [u8v u, .int .i64 g, .int .i64 f, .int .i64 t] := by simpa [Value.cells] using e0
    rw [← Array.toArray_toList (xs := cs0), this]
  clear hv0 e0
  subst hw0
  obtain ⟨cs1, hv1⟩ := agg_of Tryz.underlying40 (hval 1 40 v1 rfl rfl)
  have el1 : Opens enc Tryz.prog W 0 (fun _ => true) true 40 (RAsk W) := open_ask Tryz.underlying40 Tryz.underlying3 Tryz.underlying3 Tryz.underlying3 Tryz.underlying3 Tryz.underlying36 Tryz.underlying37 Tryz.underlying38 Tryz.underlying38 Tryz.underlying38 Tryz.underlying4 (by kernel_rfl) (by kernel_rfl) rfl (by kernel_rfl) rfl (by kernel_rfl) rfl (by kernel_rfl) rfl (by kernel_rfl) rfl (by kernel_rfl) rfl (by kernel_rfl) rfl (by kernel_rfl) rfl (by kernel_rfl) (by kernel_rfl)
  obtain ⟨a, ha, ka, e1, ina, numsa⟩ := Opens.top el1 h1 hs1
  have hw1 : v1 = askV a ha ka := by rw [e1, hv1]; simp [Value.cells]
  clear hv1 e1
  subst hw1
  obtain ⟨A, n, c, rfl⟩ := okWide_slice Tryz.underlying63 (hval 2 63 v2 rfl rfl)
  have el2 : Opens enc Tryz.prog W 0 (fun _ => true) true 41 (RBytes W) := open_bytes5 Tryz.underlying41 Tryz.underlying5 (by kernel_rfl) (by kernel_rfl)
  obtain ⟨l2, A', n', c', e2, hn2, hc2, hm2, hb2, hl2⟩ := Opens.top (open_slice (k := 1) Tryz.underlying63 (by kernel_rfl) (by omega) el2) h2 hs2
  obtain ⟨rfl, rfl, rfl⟩ : A = A' ∧ n = n' ∧ c = c' := by simpa [Value.cells] using e2
  clear hA0 hval0
  refine (ends8_any u g f t a ha ka A n c l2 hn2 W ina (fun h => pieces_at hl2 (by omega))).mono fun e W' ⟨he, bel⟩ => ?_
  subst he
  exact ⟨_, rfl, _, _, _, [], _, [], hW', trodAll_mk1 (shut_bool Tryz.underlying4 _), (trodAll_cons_mk (Below.trod laidOut (by kernel_rfl) (of_decide_eq_true (by kernel_rfl)) k0 bel lt0) (trodAll_cons_mk (Below.trod laidOut (by kernel_rfl) (of_decide_eq_true (by kernel_rfl)) k1 bel lt1) (trodAll_cons_mk (Below.trod laidOut (by kernel_rfl) (of_decide_eq_true (by kernel_rfl)) k2 bel lt2) trodAll_mk0))), rfl, bel.frame _, fun h => by cases h⟩

theorem holds : Rows.MasterEndsSaid :=
  OpenClaim.holds_of_wide 4 Tryz.f4 rfl rfl rfl rfl rfl rfl rfl ⟨rfl, rfl, rfl, rfl, rfl⟩ rfl rfl rfl rfl rfl (by kernel_rfl) Tryz.func4 (by kernel_rfl)
    (of_decide_eq_true (by kernel_rfl)) (by unfold Func.isWrapper; first | (rw [if_pos (by decide +kernel)]; kernel_rfl) | (rw [if_neg (by decide +kernel)]; exact ⟨rfl, rfl⟩))
    (fun os started H enc _ => lifted os started H enc)
#print axioms holds
end Go.Proofs.YtlgmjnjhdamknaaGreat.masterEnds
