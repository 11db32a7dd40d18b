
/- THE LAW MasterDoes HOLDS: for every configuration and whatever acts the call answers true, and what came in reads as before. No condition. -/
import Derived.Test.YtlgmjnjhdamknaaGreatMem
import Derived.Test.YtlgmjnjhdamknaaGreatAn
import Derived.Test.YtlgmjnjhdamknaaGreatSma8
import Derived.Test.YtlgmjnjhdamknaaGreatDoes8
namespace Go.Proofs.YtlgmjnjhdamknaaGreat.masterDoes
open Go.ChangeShapes Go.WideShapes Go.ChangeAt Go.RowKit

set_option maxRecDepth 100000 in
set_option maxHeartbeats 2000000 in
theorem lifted (os : Os) (started : os.Started) (H : Type) (enc : TypeId × Value → H) :
    ReturnsInHanded {} Tryz.checked os 3 .any (Rows.masterDoesSpec.pre6 enc Tryz.prog Tryz.f3 Rows.masterDoesRow.domain false) (Rows.masterDoesSpec.post enc Tryz.prog Tryz.f3 false true false false) := by
  refine returnsInHanded_of_change_sized (C := Tryz.checked) own started (by kernel_rfl) Tryz.func3
    (ChangeSpec.witness6 (enc := enc) (C := Tryz.checked) false ⟨#[], #[.agg #[.int .u8 0, .int .i64 0, .int .i64 0, .int .i64 0], .slice none 0 0], []⟩ 8 (by kernel_rfl) (by kernel_rfl) (by kernel_rfl) (by kernel_rfl)) ?_
  intro W base args ds gs before hval0 hW hcnd hz _
  have hval : ∀ (j : Nat) t v, Tryz.f3.params[j]? = some t → args[j]? = some v → Value.okWide Tryz.prog W .any base t v := hval0
  have hW' := hW
  obtain ⟨p, q, hA0, hV, rfl, hfz, hnd⟩ := hW
  have hA : DataW.TrodAll enc Tryz.prog W 0 (fun _ => true) true Tryz.f3.params.toList args.toList ds p := hA0
  rw [Tryz.params3] at hA hval hz
  obtain ⟨v0, vs0, d0, ds0, p0, q0, hargs, rfl, rfl, h0, r0⟩ := trodAll_cons hA
  obtain ⟨v1, vs1, d1, ds1, p1, q1, rfl, rfl, rfl, h1, r1⟩ := trodAll_cons r0
  obtain ⟨rfl, rfl, rfl⟩ := trodAll_nil r1
  obtain rfl : args = #[v0, v1] := by cases args; simp_all
  obtain ⟨rfl, rfl⟩ := trodVars_none hV
  have k0 := h0
  have lt0 : ∀ x ∈ p0, x.block < W.heap.size := by obtain ⟨m, hm⟩ := k0; exact DataW.trod_lt m _ _ _ hm
  have hs0 : Small Tryz.prog 23 d0 := small_each hz (j := 0) rfl rfl
  have k1 := h1
  have lt1 : ∀ x ∈ p1, x.block < W.heap.size := by obtain ⟨m, hm⟩ := k1; exact DataW.trod_lt m _ _ _ hm
  have hs1 : Small Tryz.prog 24 d1 := small_each hz (j := 1) rfl rfl
  obtain ⟨cs0, hv0⟩ := agg_of Tryz.underlying23 (hval 0 23 v0 rfl rfl)
  have el0 : Opens enc Tryz.prog W 0 (fun _ => true) true 23 (fun (c : UInt8 × Int × Int × Int) cs => RCfg cs c) := open_cfg Tryz.underlying23 Tryz.underlying5 Tryz.underlying3 Tryz.underlying3 Tryz.underlying3 rfl (by kernel_rfl) rfl (by kernel_rfl) rfl (by kernel_rfl) rfl (by kernel_rfl) (by kernel_rfl)
  obtain ⟨⟨u, g, f, t⟩, e0⟩ := Opens.top el0 h0 hs0
  have hw0 : v0 = .agg #[u8v u, .int .i64 g, .int .i64 f, .int .i64 t] := by
    have e0 : v0.cells.toList = [u8v u, .int .i64 g, .int .i64 f, .int .i64 t] := e0
    rw [hv0] at e0 ⊢
    have : cs0.toList = [u8v u, .int .i64 g, .int .i64 f, .int .i64 t] := by simpa [Value.cells] using e0
    rw [← Array.toArray_toList (xs := cs0), this]
  clear hv0 e0
  subst hw0
  obtain ⟨A, n, c, rfl⟩ := okWide_slice Tryz.underlying24 (hval 1 24 v1 rfl rfl)
  have el0 : Opens enc Tryz.prog W 0 (fun _ => true) true 40 (RAskB W) := open_askb Tryz.underlying40 Tryz.underlying3 Tryz.underlying3 Tryz.underlying3 Tryz.underlying3 Tryz.underlying36 Tryz.underlying37 Tryz.underlying38 Tryz.underlying38 Tryz.underlying38 Tryz.underlying4 (by kernel_rfl) (by kernel_rfl) rfl (by kernel_rfl) rfl (by kernel_rfl) rfl (by kernel_rfl) rfl (by kernel_rfl) rfl (by kernel_rfl) rfl (by kernel_rfl) rfl (by kernel_rfl) rfl (by kernel_rfl) (by kernel_rfl) (by kernel_rfl) (by kernel_rfl)
  have el1 : Opens enc Tryz.prog W 0 (fun _ => true) true 43 (RAct W) := open_act Tryz.underlying43 Tryz.underlying3 el0 Tryz.underlying41 Tryz.underlying5 (by kernel_rfl) (by kernel_rfl) rfl rfl rfl (by kernel_rfl) (by kernel_rfl) (by kernel_rfl) (by kernel_rfl)
  obtain ⟨l1, A', n', c', e1, hn1, hc1, hm1, hb1, hl1⟩ := Opens.top (open_slice (k := 10) Tryz.underlying24 (by kernel_rfl) (by omega) el1) h1 hs1
  obtain ⟨rfl, rfl, rfl⟩ : A = A' ∧ n = n' ∧ c = c' := by simpa [Value.cells] using e1
  rw [show Tryz.prog.bytesOf 43 = 120 by kernel_rfl] at hb1
  clear hA0 hval0
  refine (does8_any u g f t A n c l1 hn1 (by have := reachBytes_lt; omega) W (fun h => acts_at hl1 (by omega))).mono fun e W' ⟨he, bel⟩ => ?_
  subst he
  exact ⟨_, rfl, _, _, _, [], _, [], hW', trodAll_mk1 (shut_bool Tryz.underlying4 _), (trodAll_cons_mk (Below.trod laidOut (by kernel_rfl) (of_decide_eq_true (by kernel_rfl)) k0 bel lt0) (trodAll_cons_mk (Below.trod laidOut (by kernel_rfl) (of_decide_eq_true (by kernel_rfl)) k1 bel lt1) trodAll_mk0)), rfl, bel.frame _, fun h => by cases h⟩

theorem holds : Rows.MasterDoesSaid :=
  OpenClaim.holds_of_wide 3 Tryz.f3 rfl rfl rfl rfl rfl rfl rfl ⟨rfl, rfl, rfl, rfl, rfl⟩ rfl rfl rfl rfl rfl (by kernel_rfl) Tryz.func3 (by kernel_rfl)
    (of_decide_eq_true (by kernel_rfl)) (by unfold Func.isWrapper; first | (rw [if_pos (by decide +kernel)]; kernel_rfl) | (rw [if_neg (by decide +kernel)]; exact ⟨rfl, rfl⟩))
    (fun os started H enc _ => lifted os started H enc)

end Go.Proofs.YtlgmjnjhdamknaaGreat.masterDoes
