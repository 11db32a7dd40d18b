
/- A part of the proof of the law MasterDoes. -/
import Derived.Test.YtlgmjnjhdamknaaGreatMem
import Derived.Test.YtlgmjnjhdamknaaGreatBr7
import Derived.Test.YtlgmjnjhdamknaaGreatR2
import Derived.Lib.MinMax
import Derived.Deep.RegionHeld3
import Derived.Deep.DrawnRows
import Derived.Deep.Cut
import Derived.Deep.CutRange
import Derived.Deep.DeepCutAuto
namespace Go.Proofs.YtlgmjnjhdamknaaGreat
open Go.RowKit

attribute [local go_sem ↓] Go.wp_at_zero Go.wp_at_succ

def GPost7 (w : World) (x : Ans) (e : Ending) (w' : World) : Prop :=
  ∃ h k t : Hd, e = .returned (ansV x h k t) ∧ AnsIn w' x h k t ∧ Below w.heap.size w w'
theorem GPost7.mk {w w' : World} {x : Ans} {h k t : Hd} (hx : AnsIn w' x h k t) (hb : Below w.heap.size w w') : GPost7 w x (.returned (ansV x h k t)) w' := ⟨h, k, t, rfl, hx, hb⟩
set_option maxRecDepth 100000 in
set_option maxHeartbeats 1000000 in
theorem rguess7_5 (code : Int) (hcode : code = 5 ∨ code = 6 ∨ code = 15 ∨ code = 16 ∨ code = 22) (addr count to_ : Int) (words : List UInt16) (bits : List Bool) (and_ or_ : UInt16) (h k : Hd) (B : Option Addr) (n cc : Nat) (b : List UInt8) (hn : b.length = n) (hnc : n ≤ cc) (hcm : cc ≤ maxLen) (hm : n ≤ 600) (hno : ¬ (n = 2 ∧ ((b.getD 0 0).toNat : Int) = 128 + code)) (w : World) (hb : Lies u8v w B b) :
    Calls Tryz.prog 60 #[askV ⟨code, addr, count, to_, words, bits, and_, or_⟩ h k, .slice B n cc] w (GPost7 w ⟨0, [], [], []⟩) := by
  obtain ⟨hra, hrx, hbW, -, -⟩ := two_new7 w #[.int .i64 code, .int .i64 addr, .int .i64 count, .int .i64 to_, .slice h.1 h.2.1 h.2.2, .slice k.1 k.2.1 k.2.2, u16v and_, u16v or_] #[.int .i64 0, .slice none 0 0, .slice none 0 0, .slice none 0 0] 58 51
  have hlW := hb.below hbW (zq _)
  have HN := qh hn
  have HR := qh hra
  have HX := qh hrx
  have HB := qh hbW
  have HL := qh hlW
  have HCM := qh hcm
  have HSZ : Hid ((((w.alloc (.cells #[.int .i64 code, .int .i64 addr, .int .i64 count, .int .i64 to_, .slice h.1 h.2.1 h.2.2, .slice k.1 k.2.1 k.2.2, u16v and_, u16v or_] 58)).alloc (.cells #[.int .i64 0, .slice none 0 0, .slice none 0 0, .slice none 0 0] 51))).heap.size = w.heap.size + 1 + 1) := qh (by simp)
  obtain ⟨W, hW⟩ : ∃ W, ((w.alloc (.cells #[.int .i64 code, .int .i64 addr, .int .i64 count, .int .i64 to_, .slice h.1 h.2.1 h.2.2, .slice k.1 k.2.1 k.2.2, u16v and_, u16v or_] 58)).alloc (.cells #[.int .i64 0, .slice none 0 0, .slice none 0 0, .slice none 0 0] 51)) = W := ⟨_, rfl⟩
  rw [hW] at hra hrx hbW hlW HR HX HB HL HSZ
  have HW7 := qh hW
  clear hW
  unfold maxLen at hcm
  rw [askV_eq]
  obtain ⟨r0, r1, r2, r3, r4, r5, r6, r7⟩ := row_eight hra
  clear hb hra hrx hbW
  rcases hcode with rfl | rfl | rfl | rfl | rfl
  all_goals
    go_enter Tryz.func60, Tryz.ntmps60
    go_upto_region 1 with fail
    rw [HW7.out]
    clear HW7
    go_cut [23] (fun cv wx => cv = .bool false ∧ ∃ q, wx = W.drewN q)
    case first =>
      by_cases hn2 : n = 2
      · have hl2 : 0 < b.length := by omega
        obtain ⟨bb, bo, rfl, _, hcs⟩ := hlW.at_ hl2
        have q0 := hcs 0 hl2
        have e0 : b.getD 0 0 = b[0] := by rw [List.getD_eq_getElem?_getD, List.getElem?_eq_getElem hl2]; rfl
        rw [e0] at hno
        have hx0 := (b[0]).toNat_lt
        unfold u8v at q0
        rw [Nat.add_zero] at q0
        generalize (b[0]).toNat = m0 at *
        have h0n : 0 < n := by omega
        have e13 : ((n : Int) == 2) = true := by rw [hn2]; rfl
        simp only [Int.reduceAdd] at hno
        have e2 := beq_eq_false_iff_ne.2 (fun e => hno ⟨hn2, e⟩)
        clear hno hn2 hl2 e0 hcs hlW hn
        go_quiet (fail)
        go_wp2_with fail
        go_meet
        exact ⟨rfl, _, rfl⟩
      · have e13 : ((n : Int) == 2) = false := by rw [beq_eq_false_iff_ne]; omega
        clear hno hn2 hlW hn
        go_quiet (fail)
        go_wp2_with fail
        go_meet
        exact ⟨rfl, _, rfl⟩
    case rest =>
      obtain ⟨rfl, q, rfl⟩ := hcut
      have hrV : (W.drewN q).heap[w.heap.size]? = _ := HR.out
      have hxV : (W.drewN q).heap[w.heap.size + 1]? = _ := HX.out
      have hbV : Below w.heap.size w (W.drewN q) := drewN_below HB.out q
      have hlV : Lies u8v (W.drewN q) B b := HL.out.drewN q
      have hsV : (W.drewN q).heap.size = w.heap.size + 1 + 1 := HSZ.out
      clear HR HX HB HL HSZ hlW hno r0 r1 r2 r3 r4 r5 r6 r7
      generalize W.drewN q = V at *
      have hrV2 := old_at7 hrV (.cells #[.int .i64 0, .slice none 0 0, .slice none 0 0, .slice none 0 0] 51)
      have hxV2 := old_at7 hxV (.cells #[.int .i64 0, .slice none 0 0, .slice none 0 0, .slice none 0 0] 51)
      have hyV2 := row_at V #[.int .i64 0, .slice none 0 0, .slice none 0 0, .slice none 0 0] 51 (w.heap.size + 1 + 1) hsV
      have hb2 : Below w.heap.size w (V.alloc (.cells #[.int .i64 0, .slice none 0 0, .slice none 0 0, .slice none 0 0] 51)) := hbV.alloc hbV.size _
      have hs2 : (V.alloc (.cells #[.int .i64 0, .slice none 0 0, .slice none 0 0, .slice none 0 0] 51)).heap.size = w.heap.size + 1 + 1 + 1 := by simp [hsV]
      have HV := qh (And.intro hrV2 (And.intro hxV2 (And.intro hyV2 (And.intro hb2 hs2))))
      have HLV := qh hlV
      have HNN := qh hn
      clear hrV hxV hbV hrV2 hxV2 hyV2 hb2 hs2 hlV hn
      go_upto_region 4 with fail
      go_cut [6] (fun s6 wx => (∃ A m c', s6 = .slice A m c' ∧ Hid ((b.drop 2).length = m) ∧ m ≤ c' ∧ c' ≤ maxLen ∧ Hid (Lies u8v V A (b.drop 2))) ∧ wx = V.alloc (.cells #[.int .i64 0, .slice none 0 0, .slice none 0 0, .slice none 0 0] 51))
      case first =>
        by_cases h2 : 2 ≤ n
        · have hmin : min (2 : Int) (n : Int) = 2 := by omega
          have hnn : (2 : Int) ≤ (n : Int) := by omega
          have hcc2 : (2 : Int) ≤ (cc : Int) := by omega
          rcases B with _ | ⟨ab, ao, as_⟩
          · exact absurd (HLV.out 0 (by rw [HNN.out]; omega)) (by rintro ⟨_, _, g, _⟩; cases g)
          · by_cases hc2 : cc = 2
            · have hm0 : Hid ((b.drop 2).length = 0) := qh (by rw [List.length_drop, HNN.out]; omega)
              have hl0 : Hid (Lies u8v V (some ⟨ab, ao, as_⟩) (b.drop 2)) := qh (by rw [List.drop_eq_nil_of_le (by have := HNN.out; omega)]; exact Lies.nil _ _)
              subst hc2
              go_wp2_with fail
              go_meet
              exact ⟨⟨_, 0, _, rfl, hm0, by omega, by unfold maxLen; omega, hl0⟩, rfl⟩
            · have hm0 : Hid ((b.drop 2).length = n - 2) := qh (by rw [List.length_drop, HNN.out])
              have hl0 := qh (drop_past HLV.out 2)
              go_wp2_with fail
              go_meet
              exact ⟨⟨_, n - 2, _, rfl, hm0, by omega, by have := HCM.out; omega, hl0⟩, rfl⟩
        · have hmin : min (2 : Int) (n : Int) = (n : Int) := by omega
          have hnil : b.drop 2 = [] := List.drop_eq_nil_of_le (by have := HNN.out; omega)
          have hm0 : Hid ((b.drop 2).length = 0) := qh (by rw [hnil]; simp)
          have hl0 : ∀ A, Hid (Lies u8v V A (b.drop 2)) := fun A => qh (by rw [hnil]; exact Lies.nil _ _)
          have HL0 := qh hl0
          have hcc2 : (n : Int) ≤ (cc : Int) := by omega
          clear hnil hl0
          rcases B with _ | ⟨ab, ao, as_⟩
          · have h0 : n = 0 := by
              rcases Nat.eq_zero_or_pos n with h | h
              · exact h
              · exact absurd (HLV.out 0 (by rw [HNN.out]; omega)) (by rintro ⟨_, _, g, _⟩; cases g)
            subst h0
            go_wp2_with fail
            go_meet
            exact ⟨⟨_, 0, _, rfl, hm0, by omega, by have := HCM.out; omega, HL0.out _⟩, rfl⟩
          · by_cases hc2 : cc = n
            · subst hc2
              go_wp2_with fail
              go_meet
              exact ⟨⟨_, 0, _, rfl, hm0, by omega, by have := HCM.out; omega, HL0.out _⟩, rfl⟩
            · go_wp2_with fail
              go_meet
              exact ⟨⟨_, 0, _, rfl, hm0, by omega, by have := HCM.out; omega, HL0.out _⟩, rfl⟩
      case rest =>
        obtain ⟨⟨A, m, c', rfl, HM, hmc, hmm, HLB⟩, rfl⟩ := hcut
        obtain ⟨hrV, hxV, hyV, hbV, hsV⟩ := HV.out
        have hlb := HLB.out.alloc (.cells #[.int .i64 0, .slice none 0 0, .slice none 0 0, .slice none 0 0] 51)
        have hla := HLV.out.alloc (.cells #[.int .i64 0, .slice none 0 0, .slice none 0 0, .slice none 0 0] 51)
        clear HV HLB HLV
        generalize V.alloc (.cells #[.int .i64 0, .slice none 0 0, .slice none 0 0, .slice none 0 0] 51) = V2 at *
        obtain ⟨r0, r1, r2, r3, r4, r5, r6, r7⟩ := row_eight hrV
        have hlt0 : w.heap.size < V2.heap.size := by omega
        have hlt2 : w.heap.size + 1 + 1 < V2.heap.size := by omega
        have hm600 : m ≤ 600 := by have h1 := HM.out; rw [List.length_drop, HNN.out] at h1; omega
        have HS4 := qh (stored_four hxV (.int .i64 0) (.slice none 0 0) (.slice none 0 0) (.slice none 0 0))
        have HE : Hid (GPost7 w ⟨0, [], [], []⟩ (.returned (ansV ⟨0, [], [], []⟩ (none, 0, 0) (none, 0, 0) (none, 0, 0))) _) := qh (GPost7.mk (((AnsIn.zero V2)).four hxV (.int .i64 0) (.slice none 0 0) (.slice none 0 0) (.slice none 0 0)) ((but_four (g := w.heap.size + 1) (But.of_below hbV (zq _) []) (.inr (by omega)) (.int .i64 0) (.slice none 0 0) (.slice none 0 0) (.slice none 0 0)).below (by simp) (zq _)))
        obtain ⟨z0, z1, z2, z3⟩ := row_quad hxV
        obtain ⟨y0, y1, y2, y3⟩ := row_quad_free hxV
        obtain ⟨v0, v1, v2, v3⟩ := row_quad hyV
        have hltz : w.heap.size + 1 < V2.heap.size := row_lt hxV
        have hltz2 : w.heap.size + 1 + 1 < V2.heap.size := row_lt hyV
        go_wp2_with fail
        obtain ⟨s0, s1, s2, s3⟩ := row_quad HS4.out
        refine bodyPost_ret_by (v := ansV ⟨0, [], [], []⟩ (none, 0, 0) (none, 0, 0) (none, 0, 0)) (by simp [ansV, results, Tryz.f60, go_sem, s0, s1, s2, s3]) rfl ?_
        exact HE.out

set_option maxRecDepth 100000 in
set_option maxHeartbeats 1000000 in
theorem rguess7_E (code : Int) (addr count to_ : Int) (words : List UInt16) (bits : List Bool) (and_ or_ : UInt16) (h k : Hd) (B : Option Addr) (n cc : Nat) (b : List UInt8) (hn : b.length = n) (hcm : cc ≤ maxLen) (hm : n ≤ 600) (hc0 : 1 ≤ code) (hc1 : code ≤ 43) (hyes : n = 2 ∧ ((b.getD 0 0).toNat : Int) = 128 + code) (w : World) (hb : Lies u8v w B b) :
    Calls Tryz.prog 60 #[askV ⟨code, addr, count, to_, words, bits, and_, or_⟩ h k, .slice B n cc] w (GPost7 w ⟨((b.getD 1 0).toNat : Int), [], [], []⟩) := by
  obtain ⟨hra, hrx, hbW, -, -⟩ := two_new7 w #[.int .i64 code, .int .i64 addr, .int .i64 count, .int .i64 to_, .slice h.1 h.2.1 h.2.2, .slice k.1 k.2.1 k.2.2, u16v and_, u16v or_] #[.int .i64 0, .slice none 0 0, .slice none 0 0, .slice none 0 0] 58 51
  have hlW := hb.below hbW (zq _)
  have HN := qh hn
  have HR := qh hra
  have HX := qh hrx
  have HB := qh hbW
  have HL := qh hlW
  have HCM := qh hcm
  have HSZ : Hid ((((w.alloc (.cells #[.int .i64 code, .int .i64 addr, .int .i64 count, .int .i64 to_, .slice h.1 h.2.1 h.2.2, .slice k.1 k.2.1 k.2.2, u16v and_, u16v or_] 58)).alloc (.cells #[.int .i64 0, .slice none 0 0, .slice none 0 0, .slice none 0 0] 51))).heap.size = w.heap.size + 1 + 1) := qh (by simp)
  unfold maxLen at hcm
  obtain ⟨m1, hm1⟩ : ∃ m1, (b.getD 1 0).toNat = m1 := ⟨_, rfl⟩
  rw [hm1]
  have HM1 := qh hm1
  clear hm1
  rw [askV_eq]
  obtain ⟨r0, r1, r2, r3, r4, r5, r6, r7⟩ := row_eight hra
  clear hb hra hrx hbW
  go_enter Tryz.func60, Tryz.ntmps60
  go_upto_region 1 with fail
  generalize ((w.alloc (.cells #[.int .i64 code, .int .i64 addr, .int .i64 count, .int .i64 to_, .slice h.1 h.2.1 h.2.2, .slice k.1 k.2.1 k.2.2, u16v and_, u16v or_] 58)).alloc (.cells #[.int .i64 0, .slice none 0 0, .slice none 0 0, .slice none 0 0] 51)) = W at *
  go_cut [23] (fun cv wx => cv = .bool true ∧ ∃ q, wx = W.drewN q)
  case first =>
    obtain ⟨hn2, he⟩ := hyes
    have hl2 : 0 < b.length := by omega
    obtain ⟨bb, bo, rfl, _, hcs⟩ := hlW.at_ hl2
    have q0 := hcs 0 hl2
    have e0 : b.getD 0 0 = b[0] := by rw [List.getD_eq_getElem?_getD, List.getElem?_eq_getElem hl2]; rfl
    rw [e0] at he
    have hx0 := (b[0]).toNat_lt
    unfold u8v at q0
    rw [Nat.add_zero] at q0
    generalize (b[0]).toNat = m0 at *
    have h0n : 0 < n := by omega
    have e13 : ((n : Int) == 2) = true := by rw [hn2]; rfl
    have e1 : IntKind.i64.wrap (128 + code) = 128 + code := by rw [IntKind.wrap_i64]; omega
    have e2 : ((m0 : Int) == 128 + code) = true := by rw [beq_iff_eq]; exact he
    clear hn2 hl2 e0 hcs hlW hn he
    go_quiet (fail)
    go_wp2_with fail
    go_meet
    exact ⟨rfl, _, rfl⟩
  case rest =>
    obtain ⟨rfl, q, rfl⟩ := hcut
    have hrV : (W.drewN q).heap[w.heap.size]? = _ := HR.out
    have hxV : (W.drewN q).heap[w.heap.size + 1]? = _ := HX.out
    have hbV : Below w.heap.size w (W.drewN q) := drewN_below HB.out q
    have hlV : Lies u8v (W.drewN q) B b := HL.out.drewN q
    have hn2 := hyes.1
    have hl2 : 1 < b.length := by omega
    obtain ⟨bb, bo, rfl, _, hcs⟩ := hlV.at_ (by omega)
    have q1 := hcs 1 hl2
    have e0 : b.getD 1 0 = b[1] := by rw [List.getD_eq_getElem?_getD, List.getElem?_eq_getElem hl2]; rfl
    have hx1 := (b[1]).toNat_lt
    unfold u8v at q1
    have hm1 : (b[1]).toNat = m1 := by rw [← e0]; exact HM1.out
    rw [hm1] at q1 hx1
    have h1n : 1 < n := by omega
    clear HR HX HB HL HSZ hlW hyes r0 r1 r2 r3 r4 r5 r6 r7 hlV hcs e0 hm1 hl2 hn hn2
    generalize W.drewN q = V at *
    have HS4 := qh (stored_four hxV (.int .i64 (m1 : Int)) (.slice none 0 0) (.slice none 0 0) (.slice none 0 0))
    have HE : Hid (GPost7 w ⟨(m1 : Int), [], [], []⟩ (.returned (ansV ⟨(m1 : Int), [], [], []⟩ (none, 0, 0) (none, 0, 0) (none, 0, 0))) _) := qh (GPost7.mk (((AnsIn.exc V (m1 : Int))).four hxV (.int .i64 (m1 : Int)) (.slice none 0 0) (.slice none 0 0) (.slice none 0 0)) ((but_four (g := w.heap.size + 1) (But.of_below hbV (zq _) []) (.inr (by omega)) (.int .i64 (m1 : Int)) (.slice none 0 0) (.slice none 0 0) (.slice none 0 0)).below (by simp) (zq _)))
    obtain ⟨z0, z1, z2, z3⟩ := row_quad hxV
    obtain ⟨y0, y1, y2, y3⟩ := row_quad_free hxV
    skip
    have hltz : w.heap.size + 1 < V.heap.size := row_lt hxV
    skip
    go_wp2_with fail
    obtain ⟨s0, s1, s2, s3⟩ := row_quad HS4.out
    refine bodyPost_ret_by (v := ansV ⟨(m1 : Int), [], [], []⟩ (none, 0, 0) (none, 0, 0) (none, 0, 0)) (by simp [ansV, results, Tryz.f60, go_sem, s0, s1, s2, s3]) rfl ?_
    exact HE.out

set_option maxRecDepth 100000 in
set_option maxHeartbeats 1000000 in
theorem rguess7_3 (code : Int) (hcode : code = 3 ∨ code = 4 ∨ code = 23) (addr count to_ : Int) (words : List UInt16) (bits : List Bool) (and_ or_ : UInt16) (h k : Hd) (B : Option Addr) (n cc : Nat) (b : List UInt8) (hn : b.length = n) (hnc : n ≤ cc) (hcm : cc ≤ maxLen) (hm : n ≤ 600) (hno : ¬ (n = 2 ∧ ((b.getD 0 0).toNat : Int) = 128 + code)) (w : World) (hb : Lies u8v w B b) :
    Calls Tryz.prog 60 #[askV ⟨code, addr, count, to_, words, bits, and_, or_⟩ h k, .slice B n cc] w (GPost7 w ⟨0, [], Word.ansWords (b.drop 2), []⟩) := by
  obtain ⟨hra, hrx, hbW, -, -⟩ := two_new7 w #[.int .i64 code, .int .i64 addr, .int .i64 count, .int .i64 to_, .slice h.1 h.2.1 h.2.2, .slice k.1 k.2.1 k.2.2, u16v and_, u16v or_] #[.int .i64 0, .slice none 0 0, .slice none 0 0, .slice none 0 0] 58 51
  have hlW := hb.below hbW (zq _)
  have HN := qh hn
  have HR := qh hra
  have HX := qh hrx
  have HB := qh hbW
  have HL := qh hlW
  have HCM := qh hcm
  have HSZ : Hid ((((w.alloc (.cells #[.int .i64 code, .int .i64 addr, .int .i64 count, .int .i64 to_, .slice h.1 h.2.1 h.2.2, .slice k.1 k.2.1 k.2.2, u16v and_, u16v or_] 58)).alloc (.cells #[.int .i64 0, .slice none 0 0, .slice none 0 0, .slice none 0 0] 51))).heap.size = w.heap.size + 1 + 1) := qh (by simp)
  obtain ⟨W, hW⟩ : ∃ W, ((w.alloc (.cells #[.int .i64 code, .int .i64 addr, .int .i64 count, .int .i64 to_, .slice h.1 h.2.1 h.2.2, .slice k.1 k.2.1 k.2.2, u16v and_, u16v or_] 58)).alloc (.cells #[.int .i64 0, .slice none 0 0, .slice none 0 0, .slice none 0 0] 51)) = W := ⟨_, rfl⟩
  rw [hW] at hra hrx hbW hlW HR HX HB HL HSZ
  have HW7 := qh hW
  clear hW
  unfold maxLen at hcm
  rw [askV_eq]
  obtain ⟨r0, r1, r2, r3, r4, r5, r6, r7⟩ := row_eight hra
  clear hb hra hrx hbW
  rcases hcode with rfl | rfl | rfl
  all_goals
    go_enter Tryz.func60, Tryz.ntmps60
    go_upto_region 1 with fail
    rw [HW7.out]
    clear HW7
    go_cut [23] (fun cv wx => cv = .bool false ∧ ∃ q, wx = W.drewN q)
    case first =>
      by_cases hn2 : n = 2
      · have hl2 : 0 < b.length := by omega
        obtain ⟨bb, bo, rfl, _, hcs⟩ := hlW.at_ hl2
        have q0 := hcs 0 hl2
        have e0 : b.getD 0 0 = b[0] := by rw [List.getD_eq_getElem?_getD, List.getElem?_eq_getElem hl2]; rfl
        rw [e0] at hno
        have hx0 := (b[0]).toNat_lt
        unfold u8v at q0
        rw [Nat.add_zero] at q0
        generalize (b[0]).toNat = m0 at *
        have h0n : 0 < n := by omega
        have e13 : ((n : Int) == 2) = true := by rw [hn2]; rfl
        simp only [Int.reduceAdd] at hno
        have e2 := beq_eq_false_iff_ne.2 (fun e => hno ⟨hn2, e⟩)
        clear hno hn2 hl2 e0 hcs hlW hn
        go_quiet (fail)
        go_wp2_with fail
        go_meet
        exact ⟨rfl, _, rfl⟩
      · have e13 : ((n : Int) == 2) = false := by rw [beq_eq_false_iff_ne]; omega
        clear hno hn2 hlW hn
        go_quiet (fail)
        go_wp2_with fail
        go_meet
        exact ⟨rfl, _, rfl⟩
    case rest =>
      obtain ⟨rfl, q, rfl⟩ := hcut
      have hrV : (W.drewN q).heap[w.heap.size]? = _ := HR.out
      have hxV : (W.drewN q).heap[w.heap.size + 1]? = _ := HX.out
      have hbV : Below w.heap.size w (W.drewN q) := drewN_below HB.out q
      have hlV : Lies u8v (W.drewN q) B b := HL.out.drewN q
      have hsV : (W.drewN q).heap.size = w.heap.size + 1 + 1 := HSZ.out
      clear HR HX HB HL HSZ hlW hno r0 r1 r2 r3 r4 r5 r6 r7
      generalize W.drewN q = V at *
      have hrV2 := old_at7 hrV (.cells #[.int .i64 0, .slice none 0 0, .slice none 0 0, .slice none 0 0] 51)
      have hxV2 := old_at7 hxV (.cells #[.int .i64 0, .slice none 0 0, .slice none 0 0, .slice none 0 0] 51)
      have hyV2 := row_at V #[.int .i64 0, .slice none 0 0, .slice none 0 0, .slice none 0 0] 51 (w.heap.size + 1 + 1) hsV
      have hb2 : Below w.heap.size w (V.alloc (.cells #[.int .i64 0, .slice none 0 0, .slice none 0 0, .slice none 0 0] 51)) := hbV.alloc hbV.size _
      have hs2 : (V.alloc (.cells #[.int .i64 0, .slice none 0 0, .slice none 0 0, .slice none 0 0] 51)).heap.size = w.heap.size + 1 + 1 + 1 := by simp [hsV]
      have HV := qh (And.intro hrV2 (And.intro hxV2 (And.intro hyV2 (And.intro hb2 hs2))))
      have HLV := qh hlV
      have HNN := qh hn
      clear hrV hxV hbV hrV2 hxV2 hyV2 hb2 hs2 hlV hn
      go_upto_region 4 with fail
      go_cut [6] (fun s6 wx => (∃ A m c', s6 = .slice A m c' ∧ Hid ((b.drop 2).length = m) ∧ m ≤ c' ∧ c' ≤ maxLen ∧ Hid (Lies u8v V A (b.drop 2))) ∧ wx = V.alloc (.cells #[.int .i64 0, .slice none 0 0, .slice none 0 0, .slice none 0 0] 51))
      case first =>
        by_cases h2 : 2 ≤ n
        · have hmin : min (2 : Int) (n : Int) = 2 := by omega
          have hnn : (2 : Int) ≤ (n : Int) := by omega
          have hcc2 : (2 : Int) ≤ (cc : Int) := by omega
          rcases B with _ | ⟨ab, ao, as_⟩
          · exact absurd (HLV.out 0 (by rw [HNN.out]; omega)) (by rintro ⟨_, _, g, _⟩; cases g)
          · by_cases hc2 : cc = 2
            · have hm0 : Hid ((b.drop 2).length = 0) := qh (by rw [List.length_drop, HNN.out]; omega)
              have hl0 : Hid (Lies u8v V (some ⟨ab, ao, as_⟩) (b.drop 2)) := qh (by rw [List.drop_eq_nil_of_le (by have := HNN.out; omega)]; exact Lies.nil _ _)
              subst hc2
              go_wp2_with fail
              go_meet
              exact ⟨⟨_, 0, _, rfl, hm0, by omega, by unfold maxLen; omega, hl0⟩, rfl⟩
            · have hm0 : Hid ((b.drop 2).length = n - 2) := qh (by rw [List.length_drop, HNN.out])
              have hl0 := qh (drop_past HLV.out 2)
              go_wp2_with fail
              go_meet
              exact ⟨⟨_, n - 2, _, rfl, hm0, by omega, by have := HCM.out; omega, hl0⟩, rfl⟩
        · have hmin : min (2 : Int) (n : Int) = (n : Int) := by omega
          have hnil : b.drop 2 = [] := List.drop_eq_nil_of_le (by have := HNN.out; omega)
          have hm0 : Hid ((b.drop 2).length = 0) := qh (by rw [hnil]; simp)
          have hl0 : ∀ A, Hid (Lies u8v V A (b.drop 2)) := fun A => qh (by rw [hnil]; exact Lies.nil _ _)
          have HL0 := qh hl0
          have hcc2 : (n : Int) ≤ (cc : Int) := by omega
          clear hnil hl0
          rcases B with _ | ⟨ab, ao, as_⟩
          · have h0 : n = 0 := by
              rcases Nat.eq_zero_or_pos n with h | h
              · exact h
              · exact absurd (HLV.out 0 (by rw [HNN.out]; omega)) (by rintro ⟨_, _, g, _⟩; cases g)
            subst h0
            go_wp2_with fail
            go_meet
            exact ⟨⟨_, 0, _, rfl, hm0, by omega, by have := HCM.out; omega, HL0.out _⟩, rfl⟩
          · by_cases hc2 : cc = n
            · subst hc2
              go_wp2_with fail
              go_meet
              exact ⟨⟨_, 0, _, rfl, hm0, by omega, by have := HCM.out; omega, HL0.out _⟩, rfl⟩
            · go_wp2_with fail
              go_meet
              exact ⟨⟨_, 0, _, rfl, hm0, by omega, by have := HCM.out; omega, HL0.out _⟩, rfl⟩
      case rest =>
        obtain ⟨⟨A, m, c', rfl, HM, hmc, hmm, HLB⟩, rfl⟩ := hcut
        obtain ⟨hrV, hxV, hyV, hbV, hsV⟩ := HV.out
        have hlb := HLB.out.alloc (.cells #[.int .i64 0, .slice none 0 0, .slice none 0 0, .slice none 0 0] 51)
        have hla := HLV.out.alloc (.cells #[.int .i64 0, .slice none 0 0, .slice none 0 0, .slice none 0 0] 51)
        clear HV HLB HLV
        generalize V.alloc (.cells #[.int .i64 0, .slice none 0 0, .slice none 0 0, .slice none 0 0] 51) = V2 at *
        obtain ⟨r0, r1, r2, r3, r4, r5, r6, r7⟩ := row_eight hrV
        have hlt0 : w.heap.size < V2.heap.size := by omega
        have hlt2 : w.heap.size + 1 + 1 < V2.heap.size := by omega
        have hm600 : m ≤ 600 := by have h1 := HM.out; rw [List.length_drop, HNN.out] at h1; omega
        go_wp2_with fail
        refine (rwords_any A m c' _ HM.out (by omega) _ hlb).mono ?_
        rintro e w3 ⟨A3, n3, c3, rfl, g1, g2, g3, g4, hb3, -⟩
        have hy3 := row_later hyV hb3
        have hx3 := row_later hxV hb3
        have hb03 : Below w.heap.size w w3 := hbV.trans (hb3.mono hbV.size)
        have hbs : But [w.heap.size + 1 + 1] w3 (w3.setCell ⟨w.heap.size + 1 + 1, 2, none⟩ (.slice A3 n3 c3)) := (But.refl _ _).setCell (p := ⟨w.heap.size + 1 + 1, 2, none⟩) (.inl (by simp)) _
        have hx4 := row_but hx3 hbs (show w.heap.size + 1 ∉ [w.heap.size + 1 + 1] by simp)
        have hb04 := hb03.setCell (p := ⟨w.heap.size + 1 + 1, 2, none⟩) (by simp; omega) (.slice A3 n3 c3)
        have hA3 : AnsIn w3 ⟨0, [], Word.ansWords (b.drop 2), []⟩ (none, 0, 0) (A3, n3, c3) (none, 0, 0) := ⟨rfl, zq _, Nat.zero_le _, Lies.nil _ _, g1, g2, g3, g4, rfl, zq _, Nat.zero_le _, Lies.nil _ _, by intro s hs; cases hs⟩
        have hA4 : AnsIn (w3.setCell ⟨w.heap.size + 1 + 1, 2, none⟩ (.slice A3 n3 c3)) ⟨0, [], Word.ansWords (b.drop 2), []⟩ (none, 0, 0) (A3, n3, c3) (none, 0, 0) := hA3.but hbs (by intro _ _ _ e; cases e) (far_row hy3 g4 fun y j v hv => by rcases cells_quad hv with rfl | ⟨_, _, _, rfl⟩ <;> simp) (by intro _ _ _ e; cases e)
        have HA4 := qh hA4
        have HX4 := qh hx4
        have HB4 := qh hb04
        clear hA3 hA4 g1 g2 g3 g4 hx4 hb04 hbs hla
        have HS4 := qh (stored_four HX4.out (.int .i64 0) (.slice none 0 0) (.slice A3 n3 c3) (.slice none 0 0))
        have HE : Hid (GPost7 w ⟨0, [], Word.ansWords (b.drop 2), []⟩ (.returned (ansV ⟨0, [], Word.ansWords (b.drop 2), []⟩ (none, 0, 0) (A3, n3, c3) (none, 0, 0))) _) := qh (GPost7.mk ((HA4.out).four HX4.out (.int .i64 0) (.slice none 0 0) (.slice A3 n3 c3) (.slice none 0 0)) ((but_four (g := w.heap.size + 1) (But.of_below HB4.out (zq _) []) (.inr (by omega)) (.int .i64 0) (.slice none 0 0) (.slice A3 n3 c3) (.slice none 0 0)).below (by simp) (zq _)))
        obtain ⟨z0, z1, z2, z3⟩ := row_quad hx3
        obtain ⟨y0, y1, y2, y3⟩ := row_quad_free hx3
        obtain ⟨v0, v1, v2, v3⟩ := row_quad hy3
        obtain ⟨u0, u1, u2, u3⟩ := row_quad_free hy3
        have hltz : w.heap.size + 1 < w3.heap.size := row_lt hx3
        have hltz2 : w.heap.size + 1 + 1 < w3.heap.size := row_lt hy3
        go_wp2_with fail
        obtain ⟨s0, s1, s2, s3⟩ := row_quad HS4.out
        refine bodyPost_ret_by (v := ansV ⟨0, [], Word.ansWords (b.drop 2), []⟩ (none, 0, 0) (A3, n3, c3) (none, 0, 0)) (by simp [ansV, results, Tryz.f60, go_sem, s0, s1, s2, s3]) rfl ?_
        exact HE.out

set_option maxRecDepth 100000 in
set_option maxHeartbeats 1000000 in
theorem rguess7_1 (addr to_ : Int) (M : Nat) (words : List UInt16) (bits : List Bool) (and_ or_ : UInt16) (h k : Hd) (B : Option Addr) (n cc : Nat) (b : List UInt8) (hn : b.length = n) (hnc : n ≤ cc) (hcm : cc ≤ maxLen) (hm : n ≤ 600) (hM : M ≤ 2000) (hno : ¬ (n = 2 ∧ ((b.getD 0 0).toNat : Int) = 128 + 1)) (w : World) (hb : Lies u8v w B b) :
    Calls Tryz.prog 60 #[askV ⟨1, addr, (M : Int), to_, words, bits, and_, or_⟩ h k, .slice B n cc] w (GPost7 w ⟨0, Word.bitsOf (b.drop 2) (min M (8 * (b.drop 2).length)), [], []⟩) := by
  obtain ⟨hra, hrx, hbW, -, -⟩ := two_new7 w #[.int .i64 1, .int .i64 addr, .int .i64 (M : Int), .int .i64 to_, .slice h.1 h.2.1 h.2.2, .slice k.1 k.2.1 k.2.2, u16v and_, u16v or_] #[.int .i64 0, .slice none 0 0, .slice none 0 0, .slice none 0 0] 58 51
  have hlW := hb.below hbW (zq _)
  have HN := qh hn
  have HR := qh hra
  have HX := qh hrx
  have HB := qh hbW
  have HL := qh hlW
  have HCM := qh hcm
  have HSZ : Hid ((((w.alloc (.cells #[.int .i64 1, .int .i64 addr, .int .i64 (M : Int), .int .i64 to_, .slice h.1 h.2.1 h.2.2, .slice k.1 k.2.1 k.2.2, u16v and_, u16v or_] 58)).alloc (.cells #[.int .i64 0, .slice none 0 0, .slice none 0 0, .slice none 0 0] 51))).heap.size = w.heap.size + 1 + 1) := qh (by simp)
  unfold maxLen at hcm
  obtain ⟨RB, hRB⟩ : ∃ RB, Word.bitsOf (b.drop 2) (min M (8 * (b.drop 2).length)) = RB := ⟨_, rfl⟩
  rw [hRB]
  have HRB := qh hRB
  clear hRB
  rw [askV_eq]
  obtain ⟨r0, r1, r2, r3, r4, r5, r6, r7⟩ := row_eight hra
  clear hb hra hrx hbW
  go_enter Tryz.func60, Tryz.ntmps60
  go_upto_region 1 with fail
  generalize ((w.alloc (.cells #[.int .i64 1, .int .i64 addr, .int .i64 (M : Int), .int .i64 to_, .slice h.1 h.2.1 h.2.2, .slice k.1 k.2.1 k.2.2, u16v and_, u16v or_] 58)).alloc (.cells #[.int .i64 0, .slice none 0 0, .slice none 0 0, .slice none 0 0] 51)) = W at *
  go_cut [23] (fun cv wx => cv = .bool false ∧ ∃ q, wx = W.drewN q)
  case first =>
    by_cases hn2 : n = 2
    · have hl2 : 0 < b.length := by omega
      obtain ⟨bb, bo, rfl, _, hcs⟩ := hlW.at_ hl2
      have q0 := hcs 0 hl2
      have e0 : b.getD 0 0 = b[0] := by rw [List.getD_eq_getElem?_getD, List.getElem?_eq_getElem hl2]; rfl
      rw [e0] at hno
      have hx0 := (b[0]).toNat_lt
      unfold u8v at q0
      rw [Nat.add_zero] at q0
      generalize (b[0]).toNat = m0 at *
      have h0n : 0 < n := by omega
      have e13 : ((n : Int) == 2) = true := by rw [hn2]; rfl
      have e2 : ((m0 : Int) == 129) = false := by rw [beq_eq_false_iff_ne]; intro e; exact hno ⟨hn2, by rw [e]; rfl⟩
      clear hno hn2 hl2 e0 hcs hlW hn
      go_quiet (fail)
      go_wp2_with fail
      go_meet
      exact ⟨rfl, _, rfl⟩
    · have e13 : ((n : Int) == 2) = false := by rw [beq_eq_false_iff_ne]; omega
      clear hno hn2 hlW hn
      go_quiet (fail)
      go_wp2_with fail
      go_meet
      exact ⟨rfl, _, rfl⟩
  case rest =>
    obtain ⟨rfl, q, rfl⟩ := hcut
    have hrV : (W.drewN q).heap[w.heap.size]? = _ := HR.out
    have hxV : (W.drewN q).heap[w.heap.size + 1]? = _ := HX.out
    have hbV : Below w.heap.size w (W.drewN q) := drewN_below HB.out q
    have hlV : Lies u8v (W.drewN q) B b := HL.out.drewN q
    have hsV : (W.drewN q).heap.size = w.heap.size + 1 + 1 := HSZ.out
    clear HR HX HB HL HSZ hlW hno r0 r1 r2 r3 r4 r5 r6 r7
    generalize W.drewN q = V at *
    have hrV2 := old_at7 hrV (.cells #[.int .i64 0, .slice none 0 0, .slice none 0 0, .slice none 0 0] 51)
    have hxV2 := old_at7 hxV (.cells #[.int .i64 0, .slice none 0 0, .slice none 0 0, .slice none 0 0] 51)
    have hyV2 := row_at V #[.int .i64 0, .slice none 0 0, .slice none 0 0, .slice none 0 0] 51 (w.heap.size + 1 + 1) hsV
    have hb2 : Below w.heap.size w (V.alloc (.cells #[.int .i64 0, .slice none 0 0, .slice none 0 0, .slice none 0 0] 51)) := hbV.alloc hbV.size _
    have hs2 : (V.alloc (.cells #[.int .i64 0, .slice none 0 0, .slice none 0 0, .slice none 0 0] 51)).heap.size = w.heap.size + 1 + 1 + 1 := by simp [hsV]
    have HV := qh (And.intro hrV2 (And.intro hxV2 (And.intro hyV2 (And.intro hb2 hs2))))
    have HLV := qh hlV
    have HNN := qh hn
    clear hrV hxV hbV hrV2 hxV2 hyV2 hb2 hs2 hlV hn
    go_upto_region 4 with fail
    go_cut [6] (fun s6 wx => (∃ A m c', s6 = .slice A m c' ∧ Hid ((b.drop 2).length = m) ∧ m ≤ c' ∧ c' ≤ maxLen ∧ Hid (Lies u8v V A (b.drop 2))) ∧ wx = V.alloc (.cells #[.int .i64 0, .slice none 0 0, .slice none 0 0, .slice none 0 0] 51))
    case first =>
      by_cases h2 : 2 ≤ n
      · have hmin : min (2 : Int) (n : Int) = 2 := by omega
        have hnn : (2 : Int) ≤ (n : Int) := by omega
        have hcc2 : (2 : Int) ≤ (cc : Int) := by omega
        rcases B with _ | ⟨ab, ao, as_⟩
        · exact absurd (HLV.out 0 (by rw [HNN.out]; omega)) (by rintro ⟨_, _, g, _⟩; cases g)
        · by_cases hc2 : cc = 2
          · have hm0 : Hid ((b.drop 2).length = 0) := qh (by rw [List.length_drop, HNN.out]; omega)
            have hl0 : Hid (Lies u8v V (some ⟨ab, ao, as_⟩) (b.drop 2)) := qh (by rw [List.drop_eq_nil_of_le (by have := HNN.out; omega)]; exact Lies.nil _ _)
            subst hc2
            go_wp2_with fail
            go_meet
            exact ⟨⟨_, 0, _, rfl, hm0, by omega, by unfold maxLen; omega, hl0⟩, rfl⟩
          · have hm0 : Hid ((b.drop 2).length = n - 2) := qh (by rw [List.length_drop, HNN.out])
            have hl0 := qh (drop_past HLV.out 2)
            go_wp2_with fail
            go_meet
            exact ⟨⟨_, n - 2, _, rfl, hm0, by omega, by have := HCM.out; omega, hl0⟩, rfl⟩
      · have hmin : min (2 : Int) (n : Int) = (n : Int) := by omega
        have hnil : b.drop 2 = [] := List.drop_eq_nil_of_le (by have := HNN.out; omega)
        have hm0 : Hid ((b.drop 2).length = 0) := qh (by rw [hnil]; simp)
        have hl0 : ∀ A, Hid (Lies u8v V A (b.drop 2)) := fun A => qh (by rw [hnil]; exact Lies.nil _ _)
        have HL0 := qh hl0
        have hcc2 : (n : Int) ≤ (cc : Int) := by omega
        clear hnil hl0
        rcases B with _ | ⟨ab, ao, as_⟩
        · have h0 : n = 0 := by
            rcases Nat.eq_zero_or_pos n with h | h
            · exact h
            · exact absurd (HLV.out 0 (by rw [HNN.out]; omega)) (by rintro ⟨_, _, g, _⟩; cases g)
          subst h0
          go_wp2_with fail
          go_meet
          exact ⟨⟨_, 0, _, rfl, hm0, by omega, by have := HCM.out; omega, HL0.out _⟩, rfl⟩
        · by_cases hc2 : cc = n
          · subst hc2
            go_wp2_with fail
            go_meet
            exact ⟨⟨_, 0, _, rfl, hm0, by omega, by have := HCM.out; omega, HL0.out _⟩, rfl⟩
          · go_wp2_with fail
            go_meet
            exact ⟨⟨_, 0, _, rfl, hm0, by omega, by have := HCM.out; omega, HL0.out _⟩, rfl⟩
    case rest =>
      obtain ⟨⟨A, m, c', rfl, HM, hmc, hmm, HLB⟩, rfl⟩ := hcut
      obtain ⟨hrV, hxV, hyV, hbV, hsV⟩ := HV.out
      have hlb := HLB.out.alloc (.cells #[.int .i64 0, .slice none 0 0, .slice none 0 0, .slice none 0 0] 51)
      have hla := HLV.out.alloc (.cells #[.int .i64 0, .slice none 0 0, .slice none 0 0, .slice none 0 0] 51)
      clear HV HLB HLV
      generalize V.alloc (.cells #[.int .i64 0, .slice none 0 0, .slice none 0 0, .slice none 0 0] 51) = V2 at *
      obtain ⟨r0, r1, r2, r3, r4, r5, r6, r7⟩ := row_eight hrV
      have hlt0 : w.heap.size < V2.heap.size := by omega
      have hlt2 : w.heap.size + 1 + 1 < V2.heap.size := by omega
      have hm600 : m ≤ 600 := by have h1 := HM.out; rw [List.length_drop, HNN.out] at h1; omega
      obtain ⟨p, hp⟩ : ∃ p, b.drop 2 = p := ⟨_, rfl⟩
      rw [hp] at HM hlb
      have HG : Hid (RB = Word.bitsOf p (min M (8 * m))) := qh (by rw [← HRB.out, hp, HM.out])
      clear HRB
      have hpg := far_row (g := w.heap.size + 1 + 1) hyV hlb (fun y j v hv => by rcases cells_quad hv with rfl | ⟨_, _, _, rfl⟩ <;> simp)
      have hpB : ∀ b' o' s', A = some ⟨b', o', s'⟩ → 0 < p.length → b' < V2.heap.size := fun b' o' s' e h0 => by
        obtain ⟨_, _, e', hc⟩ := hlb 0 h0
        rw [e] at e'
        cases e'
        exact World.block_lt_of_cell? _ _ hc
      have HPG : Hid (∀ b' o' s', A = some ⟨b', o', s'⟩ → 0 < p.length → b' ≠ w.heap.size + 1 + 1) := qh (fun b' o' s' e h0 hq => hpg b' o' s' e h0 (by simp [hq]))
      obtain ⟨BB, hBB⟩ : ∃ BB, V2.heap.size = BB := ⟨_, rfl⟩
      rw [hBB] at hpB hlt0 hlt2 hsV
      have HPB := qh hpB
      have hBle : BB ≤ V2.heap.size := Nat.le_of_eq hBB.symm
      have hgw : w.heap.size ≤ w.heap.size + 1 + 1 := by omega
      clear hpg hpB hBB hla hp
      have hlp := hlb
      clear hlb r0 r1 r2 r3 r4 r5 r6 r7
      obtain ⟨r0, r1, r2, -⟩ := row_eight hrV
      go_wp2_with fail
      go_loopw [7] (fun i wr => ∃ (j : Nat) (Ao : Option Addr) (co : Nat), j ≤ M ∧ j ≤ 8 * m ∧ i = .int .i64 j ∧ wr.heap[w.heap.size + 1 + 1]? = some (.cells #[.int .i64 0, .slice Ao j co, .slice none 0 0, .slice none 0 0] 51 (0, 0)) ∧ wr.heap[w.heap.size + 1]? = some (.cells #[.int .i64 0, .slice none 0 0, .slice none 0 0, .slice none 0 0] 51 (0, 0)) ∧ wr.heap[w.heap.size]? = some (.cells #[.int .i64 1, .int .i64 addr, .int .i64 (M : Int), .int .i64 to_, .slice h.1 h.2.1 h.2.2, .slice k.1 k.2.1 k.2.2, u16v and_, u16v or_] 58 (0, 0)) ∧ wr.ownsRow BB 4 1 (.slice Ao j co) j ((Word.bitsOf p j).map bitv) ∧ Below w.heap.size w wr ∧ BB ≤ wr.heap.size ∧ Lies u8v wr A p) (fun i _ => 8 * m - (intOf i).toNat)
      case atStart => exact ⟨0, none, 0, Nat.zero_le _, Nat.zero_le _, rfl, hyV, hxV, hrV, World.ownsRow_nil _ _ _ _, hbV, hBle, hlp⟩
      case round =>
        obtain ⟨j, Ao, co, hjM, hjm, rfl, hyr, hxr, hrr, hown, hbr, hBr, hpr⟩ := hrel
        obtain ⟨z0, z1, z2, z3⟩ := row_quad hyr
        obtain ⟨r0, r1, r2, -⟩ := row_eight hrr
        have iw : IntKind.i64.wrap (8 * (m : Int)) = 8 * (m : Int) := by rw [IntKind.wrap_i64]; omega
        by_cases hlt : j < M ∧ j < 8 * m
        · obtain ⟨hltM, hltm⟩ := hlt
          have i1 : (j : Int) < (M : Int) := by omega
          have i2 : (j : Int) < 8 * (m : Int) := by omega
          have hq : j / 8 < p.length := by have := HM.out; omega
          obtain ⟨b2, o2, hA2, hc1⟩ := hpr (j / 8) hq
          have HV : Hid (Word.bitAt p j = decide ((p[j / 8]).toNat / 2 ^ (j % 8) % 2 = 1)) := qh (by unfold Word.bitAt; rw [List.getD_eq_getElem?_getD, List.getElem?_eq_getElem hq, Option.getD_some])
          have hx8 := (p[j / 8]).toNat_lt
          have HS := qh (Word.bitsOf_succ' p j)
          have HPR := qh hpr
          unfold u8v at hc1
          generalize (p[j / 8]).toNat = y8 at hc1 HV hx8
          have hr8 : j % 8 < 8 := by omega
          have hj16 : j ≤ 160000 := by omega
          have hq' : (j : Int) / 8 < (m : Int) := by omega
          have HO := qh hown
          clear hpr hq hown
          subst hA2
          go_wp2_with fail
          go_loop [8, 9] (fun cv kv => ∃ k : Nat, k ≤ j % 8 ∧ kv = .int .i64 k ∧ cv = .int .i64 ((y8 / 2 ^ k : Nat) : Int)) (fun _ kv => 8 - (intOf kv).toNat)
          case atStart => exact ⟨0, by omega, rfl, by rw [Nat.pow_zero, Nat.div_one]⟩
          case round =>
            obtain ⟨k, hk, rfl, rfl⟩ := hrel
            have HH := qh (half_pow y8 k)
            have hyx : y8 / 2 ^ k ≤ y8 := Nat.div_le_self _ _
            by_cases hlt2 : k < j % 8
            · have hlk : (k : Int) < (j : Int) % 8 := by omega
              generalize y8 / 2 ^ k = y at *
              go_wp2
              go_round
              case rel => exact ⟨k + 1, by omega, by simp, by rw [HH.out]; simp⟩
              case measure => simp [intOf]; omega
            · have hlk : ¬ ((k : Int) < (j : Int) % 8) := by omega
              obtain rfl : k = j % 8 := by omega
              have HN : Hid ([Value.bool (((y8 / 2 ^ (j % 8) : Nat) : Int) % 2 == 1)] = [Word.bitAt p j].map bitv) := qh (by rw [half_beq, ← HV.out]; rfl)
              clear HV HH
              generalize y8 / 2 ^ (j % 8) = y at *
              obtain ⟨Bt, hBt⟩ : ∃ Bt, ((y : Int) % 2 == 1) = Bt := ⟨_, rfl⟩
              rw [hBt] at HN
              have hba := (Below.refl BB wr).alloc hBr (.cells #[.bool Bt] 4)
              have hyra := row_later hyr ((Below.refl _ wr).alloc (zq _) (.cells #[.bool Bt] 4))
              obtain ⟨za0, za1, za2, za3⟩ := row_quad hyra
              go_wp2_with (at_builtin; go_must (refine wpList_append_lies kitb oneb _ rfl (.tmp 68) (.tmp 72) rfl BB _ j (Word.bitsOf p j) rfl (own_below HO.out ((Below.refl _ wr).alloc (zq _) (.cells #[.bool Bt] 4))) (some ⟨wr.heap.size, 0, none⟩) 1 1 [Word.bitAt p j] rfl rfl (lies_new (f := bitv) wr #[.bool Bt] 4 [Word.bitAt p j] HN.out) (by omega) (by unfold maxLen; omega) (by simp; omega) ?_; intro A2 c2 w5 hown2 hg2 hb2; have hbw2 := hba.trans hb2; have hyr5 := (hbw2.block _ (show w.heap.size + 1 + 1 < BB by omega)).trans hyr; obtain ⟨zb0, zb1, zb2, zb3⟩ := row_quad hyr5; obtain ⟨zf0, zf1, zf2, zf3⟩ := row_quad_free hyr5))
              go_roundw
              case rel =>
                refine ⟨j + 1, A2, c2, by omega, by omega, by simp, by simpa using row_set hyr5 (i := 1) (.slice A2 (j + 1) c2), row_set_far ((hbw2.block _ (by omega)).trans hxr) (by omega) _, row_set_far ((hbw2.block _ (by omega)).trans hrr) (by omega) _, ?_, (hbr.trans (hbw2.mono (by omega))).setCell (p := ⟨w.heap.size + 1 + 1, 1, none⟩) hgw _, by have := hbw2.size; simp [World.setCell]; omega, lies_set (lies_low HPR.out HPB.out hbw2) HPG.out 1 _⟩
                rw [HS.out]
                exact own_set hown2 (by omega) _
              case measure => simp [intOf]; omega
        · obtain ⟨hoc, hom, hol, hoy⟩ := own_at hown
          have HIN : Hid (RB = Word.bitsOf p j) := qh (by rw [HG.out]; congr 1; omega)
          have HX4 := qh hxr
          have HB4 := qh hbr
          have HA4 : Hid (AnsIn wr ⟨0, RB, [], []⟩ (Ao, j, co) (none, 0, 0) (none, 0, 0)) := qh (by rw [HIN.out]; exact ⟨hol, hoc, hom, hoy, rfl, zq _, Nat.zero_le _, Lies.nil _ _, rfl, zq _, Nat.zero_le _, Lies.nil _ _, by intro s hs; cases hs⟩)
          clear hpr hown HG hoc hom hol hoy HIN
          by_cases hM2 : j < M
          · have i1 : (j : Int) < (M : Int) := by omega
            have i2 : ¬ (j : Int) < 8 * (m : Int) := by omega
            have HS4 := qh (stored_four HX4.out (.int .i64 0) (.slice Ao j co) (.slice none 0 0) (.slice none 0 0))
            have HE : Hid (GPost7 w ⟨0, RB, [], []⟩ (.returned (ansV ⟨0, RB, [], []⟩ (Ao, j, co) (none, 0, 0) (none, 0, 0))) _) := qh (GPost7.mk ((HA4.out).four HX4.out (.int .i64 0) (.slice Ao j co) (.slice none 0 0) (.slice none 0 0)) ((but_four (g := w.heap.size + 1) (But.of_below HB4.out (zq _) []) (.inr (by omega)) (.int .i64 0) (.slice Ao j co) (.slice none 0 0) (.slice none 0 0)).below (by simp) (zq _)))
            obtain ⟨z0, z1, z2, z3⟩ := row_quad hxr
            obtain ⟨y0, y1, y2, y3⟩ := row_quad_free hxr
            obtain ⟨v0, v1, v2, v3⟩ := row_quad hyr
            have hltz : w.heap.size + 1 < wr.heap.size := row_lt hxr
            have hltz2 : w.heap.size + 1 + 1 < wr.heap.size := row_lt hyr
            go_wp2_with fail
            obtain ⟨s0, s1, s2, s3⟩ := row_quad HS4.out
            refine bodyPost_ret_by (v := ansV ⟨0, RB, [], []⟩ (Ao, j, co) (none, 0, 0) (none, 0, 0)) (by simp [ansV, results, Tryz.f60, go_sem, s0, s1, s2, s3]) rfl ?_
            exact HE.out
          · have i1 : ¬ (j : Int) < (M : Int) := by omega
            have HS4 := qh (stored_four HX4.out (.int .i64 0) (.slice Ao j co) (.slice none 0 0) (.slice none 0 0))
            have HE : Hid (GPost7 w ⟨0, RB, [], []⟩ (.returned (ansV ⟨0, RB, [], []⟩ (Ao, j, co) (none, 0, 0) (none, 0, 0))) _) := qh (GPost7.mk ((HA4.out).four HX4.out (.int .i64 0) (.slice Ao j co) (.slice none 0 0) (.slice none 0 0)) ((but_four (g := w.heap.size + 1) (But.of_below HB4.out (zq _) []) (.inr (by omega)) (.int .i64 0) (.slice Ao j co) (.slice none 0 0) (.slice none 0 0)).below (by simp) (zq _)))
            obtain ⟨z0, z1, z2, z3⟩ := row_quad hxr
            obtain ⟨y0, y1, y2, y3⟩ := row_quad_free hxr
            obtain ⟨v0, v1, v2, v3⟩ := row_quad hyr
            have hltz : w.heap.size + 1 < wr.heap.size := row_lt hxr
            have hltz2 : w.heap.size + 1 + 1 < wr.heap.size := row_lt hyr
            go_wp2_with fail
            obtain ⟨s0, s1, s2, s3⟩ := row_quad HS4.out
            refine bodyPost_ret_by (v := ansV ⟨0, RB, [], []⟩ (Ao, j, co) (none, 0, 0) (none, 0, 0)) (by simp [ansV, results, Tryz.f60, go_sem, s0, s1, s2, s3]) rfl ?_
            exact HE.out
set_option maxRecDepth 100000 in
set_option maxHeartbeats 1000000 in
theorem rguess7_2 (addr to_ : Int) (M : Nat) (words : List UInt16) (bits : List Bool) (and_ or_ : UInt16) (h k : Hd) (B : Option Addr) (n cc : Nat) (b : List UInt8) (hn : b.length = n) (hnc : n ≤ cc) (hcm : cc ≤ maxLen) (hm : n ≤ 600) (hM : M ≤ 2000) (hno : ¬ (n = 2 ∧ ((b.getD 0 0).toNat : Int) = 128 + 2)) (w : World) (hb : Lies u8v w B b) :
    Calls Tryz.prog 60 #[askV ⟨2, addr, (M : Int), to_, words, bits, and_, or_⟩ h k, .slice B n cc] w (GPost7 w ⟨0, Word.bitsOf (b.drop 2) (min M (8 * (b.drop 2).length)), [], []⟩) := by
  obtain ⟨hra, hrx, hbW, -, -⟩ := two_new7 w #[.int .i64 2, .int .i64 addr, .int .i64 (M : Int), .int .i64 to_, .slice h.1 h.2.1 h.2.2, .slice k.1 k.2.1 k.2.2, u16v and_, u16v or_] #[.int .i64 0, .slice none 0 0, .slice none 0 0, .slice none 0 0] 58 51
  have hlW := hb.below hbW (zq _)
  have HN := qh hn
  have HR := qh hra
  have HX := qh hrx
  have HB := qh hbW
  have HL := qh hlW
  have HCM := qh hcm
  have HSZ : Hid ((((w.alloc (.cells #[.int .i64 2, .int .i64 addr, .int .i64 (M : Int), .int .i64 to_, .slice h.1 h.2.1 h.2.2, .slice k.1 k.2.1 k.2.2, u16v and_, u16v or_] 58)).alloc (.cells #[.int .i64 0, .slice none 0 0, .slice none 0 0, .slice none 0 0] 51))).heap.size = w.heap.size + 1 + 1) := qh (by simp)
  unfold maxLen at hcm
  obtain ⟨RB, hRB⟩ : ∃ RB, Word.bitsOf (b.drop 2) (min M (8 * (b.drop 2).length)) = RB := ⟨_, rfl⟩
  rw [hRB]
  have HRB := qh hRB
  clear hRB
  rw [askV_eq]
  obtain ⟨r0, r1, r2, r3, r4, r5, r6, r7⟩ := row_eight hra
  clear hb hra hrx hbW
  go_enter Tryz.func60, Tryz.ntmps60
  go_upto_region 1 with fail
  generalize ((w.alloc (.cells #[.int .i64 2, .int .i64 addr, .int .i64 (M : Int), .int .i64 to_, .slice h.1 h.2.1 h.2.2, .slice k.1 k.2.1 k.2.2, u16v and_, u16v or_] 58)).alloc (.cells #[.int .i64 0, .slice none 0 0, .slice none 0 0, .slice none 0 0] 51)) = W at *
  go_cut [23] (fun cv wx => cv = .bool false ∧ ∃ q, wx = W.drewN q)
  case first =>
    by_cases hn2 : n = 2
    · have hl2 : 0 < b.length := by omega
      obtain ⟨bb, bo, rfl, _, hcs⟩ := hlW.at_ hl2
      have q0 := hcs 0 hl2
      have e0 : b.getD 0 0 = b[0] := by rw [List.getD_eq_getElem?_getD, List.getElem?_eq_getElem hl2]; rfl
      rw [e0] at hno
      have hx0 := (b[0]).toNat_lt
      unfold u8v at q0
      rw [Nat.add_zero] at q0
      generalize (b[0]).toNat = m0 at *
      have h0n : 0 < n := by omega
      have e13 : ((n : Int) == 2) = true := by rw [hn2]; rfl
      have e2 : ((m0 : Int) == 130) = false := by rw [beq_eq_false_iff_ne]; intro e; exact hno ⟨hn2, by rw [e]; rfl⟩
      clear hno hn2 hl2 e0 hcs hlW hn
      go_quiet (fail)
      go_wp2_with fail
      go_meet
      exact ⟨rfl, _, rfl⟩
    · have e13 : ((n : Int) == 2) = false := by rw [beq_eq_false_iff_ne]; omega
      clear hno hn2 hlW hn
      go_quiet (fail)
      go_wp2_with fail
      go_meet
      exact ⟨rfl, _, rfl⟩
  case rest =>
    obtain ⟨rfl, q, rfl⟩ := hcut
    have hrV : (W.drewN q).heap[w.heap.size]? = _ := HR.out
    have hxV : (W.drewN q).heap[w.heap.size + 1]? = _ := HX.out
    have hbV : Below w.heap.size w (W.drewN q) := drewN_below HB.out q
    have hlV : Lies u8v (W.drewN q) B b := HL.out.drewN q
    have hsV : (W.drewN q).heap.size = w.heap.size + 1 + 1 := HSZ.out
    clear HR HX HB HL HSZ hlW hno r0 r1 r2 r3 r4 r5 r6 r7
    generalize W.drewN q = V at *
    have hrV2 := old_at7 hrV (.cells #[.int .i64 0, .slice none 0 0, .slice none 0 0, .slice none 0 0] 51)
    have hxV2 := old_at7 hxV (.cells #[.int .i64 0, .slice none 0 0, .slice none 0 0, .slice none 0 0] 51)
    have hyV2 := row_at V #[.int .i64 0, .slice none 0 0, .slice none 0 0, .slice none 0 0] 51 (w.heap.size + 1 + 1) hsV
    have hb2 : Below w.heap.size w (V.alloc (.cells #[.int .i64 0, .slice none 0 0, .slice none 0 0, .slice none 0 0] 51)) := hbV.alloc hbV.size _
    have hs2 : (V.alloc (.cells #[.int .i64 0, .slice none 0 0, .slice none 0 0, .slice none 0 0] 51)).heap.size = w.heap.size + 1 + 1 + 1 := by simp [hsV]
    have HV := qh (And.intro hrV2 (And.intro hxV2 (And.intro hyV2 (And.intro hb2 hs2))))
    have HLV := qh hlV
    have HNN := qh hn
    clear hrV hxV hbV hrV2 hxV2 hyV2 hb2 hs2 hlV hn
    go_upto_region 4 with fail
    go_cut [6] (fun s6 wx => (∃ A m c', s6 = .slice A m c' ∧ Hid ((b.drop 2).length = m) ∧ m ≤ c' ∧ c' ≤ maxLen ∧ Hid (Lies u8v V A (b.drop 2))) ∧ wx = V.alloc (.cells #[.int .i64 0, .slice none 0 0, .slice none 0 0, .slice none 0 0] 51))
    case first =>
      by_cases h2 : 2 ≤ n
      · have hmin : min (2 : Int) (n : Int) = 2 := by omega
        have hnn : (2 : Int) ≤ (n : Int) := by omega
        have hcc2 : (2 : Int) ≤ (cc : Int) := by omega
        rcases B with _ | ⟨ab, ao, as_⟩
        · exact absurd (HLV.out 0 (by rw [HNN.out]; omega)) (by rintro ⟨_, _, g, _⟩; cases g)
        · by_cases hc2 : cc = 2
          · have hm0 : Hid ((b.drop 2).length = 0) := qh (by rw [List.length_drop, HNN.out]; omega)
            have hl0 : Hid (Lies u8v V (some ⟨ab, ao, as_⟩) (b.drop 2)) := qh (by rw [List.drop_eq_nil_of_le (by have := HNN.out; omega)]; exact Lies.nil _ _)
            subst hc2
            go_wp2_with fail
            go_meet
            exact ⟨⟨_, 0, _, rfl, hm0, by omega, by unfold maxLen; omega, hl0⟩, rfl⟩
          · have hm0 : Hid ((b.drop 2).length = n - 2) := qh (by rw [List.length_drop, HNN.out])
            have hl0 := qh (drop_past HLV.out 2)
            go_wp2_with fail
            go_meet
            exact ⟨⟨_, n - 2, _, rfl, hm0, by omega, by have := HCM.out; omega, hl0⟩, rfl⟩
      · have hmin : min (2 : Int) (n : Int) = (n : Int) := by omega
        have hnil : b.drop 2 = [] := List.drop_eq_nil_of_le (by have := HNN.out; omega)
        have hm0 : Hid ((b.drop 2).length = 0) := qh (by rw [hnil]; simp)
        have hl0 : ∀ A, Hid (Lies u8v V A (b.drop 2)) := fun A => qh (by rw [hnil]; exact Lies.nil _ _)
        have HL0 := qh hl0
        have hcc2 : (n : Int) ≤ (cc : Int) := by omega
        clear hnil hl0
        rcases B with _ | ⟨ab, ao, as_⟩
        · have h0 : n = 0 := by
            rcases Nat.eq_zero_or_pos n with h | h
            · exact h
            · exact absurd (HLV.out 0 (by rw [HNN.out]; omega)) (by rintro ⟨_, _, g, _⟩; cases g)
          subst h0
          go_wp2_with fail
          go_meet
          exact ⟨⟨_, 0, _, rfl, hm0, by omega, by have := HCM.out; omega, HL0.out _⟩, rfl⟩
        · by_cases hc2 : cc = n
          · subst hc2
            go_wp2_with fail
            go_meet
            exact ⟨⟨_, 0, _, rfl, hm0, by omega, by have := HCM.out; omega, HL0.out _⟩, rfl⟩
          · go_wp2_with fail
            go_meet
            exact ⟨⟨_, 0, _, rfl, hm0, by omega, by have := HCM.out; omega, HL0.out _⟩, rfl⟩
    case rest =>
      obtain ⟨⟨A, m, c', rfl, HM, hmc, hmm, HLB⟩, rfl⟩ := hcut
      obtain ⟨hrV, hxV, hyV, hbV, hsV⟩ := HV.out
      have hlb := HLB.out.alloc (.cells #[.int .i64 0, .slice none 0 0, .slice none 0 0, .slice none 0 0] 51)
      have hla := HLV.out.alloc (.cells #[.int .i64 0, .slice none 0 0, .slice none 0 0, .slice none 0 0] 51)
      clear HV HLB HLV
      generalize V.alloc (.cells #[.int .i64 0, .slice none 0 0, .slice none 0 0, .slice none 0 0] 51) = V2 at *
      obtain ⟨r0, r1, r2, r3, r4, r5, r6, r7⟩ := row_eight hrV
      have hlt0 : w.heap.size < V2.heap.size := by omega
      have hlt2 : w.heap.size + 1 + 1 < V2.heap.size := by omega
      have hm600 : m ≤ 600 := by have h1 := HM.out; rw [List.length_drop, HNN.out] at h1; omega
      obtain ⟨p, hp⟩ : ∃ p, b.drop 2 = p := ⟨_, rfl⟩
      rw [hp] at HM hlb
      have HG : Hid (RB = Word.bitsOf p (min M (8 * m))) := qh (by rw [← HRB.out, hp, HM.out])
      clear HRB
      have hpg := far_row (g := w.heap.size + 1 + 1) hyV hlb (fun y j v hv => by rcases cells_quad hv with rfl | ⟨_, _, _, rfl⟩ <;> simp)
      have hpB : ∀ b' o' s', A = some ⟨b', o', s'⟩ → 0 < p.length → b' < V2.heap.size := fun b' o' s' e h0 => by
        obtain ⟨_, _, e', hc⟩ := hlb 0 h0
        rw [e] at e'
        cases e'
        exact World.block_lt_of_cell? _ _ hc
      have HPG : Hid (∀ b' o' s', A = some ⟨b', o', s'⟩ → 0 < p.length → b' ≠ w.heap.size + 1 + 1) := qh (fun b' o' s' e h0 hq => hpg b' o' s' e h0 (by simp [hq]))
      obtain ⟨BB, hBB⟩ : ∃ BB, V2.heap.size = BB := ⟨_, rfl⟩
      rw [hBB] at hpB hlt0 hlt2 hsV
      have HPB := qh hpB
      have hBle : BB ≤ V2.heap.size := Nat.le_of_eq hBB.symm
      have hgw : w.heap.size ≤ w.heap.size + 1 + 1 := by omega
      clear hpg hpB hBB hla hp
      have hlp := hlb
      clear hlb r0 r1 r2 r3 r4 r5 r6 r7
      obtain ⟨r0, r1, r2, -⟩ := row_eight hrV
      go_wp2_with fail
      go_loopw [7] (fun i wr => ∃ (j : Nat) (Ao : Option Addr) (co : Nat), j ≤ M ∧ j ≤ 8 * m ∧ i = .int .i64 j ∧ wr.heap[w.heap.size + 1 + 1]? = some (.cells #[.int .i64 0, .slice Ao j co, .slice none 0 0, .slice none 0 0] 51 (0, 0)) ∧ wr.heap[w.heap.size + 1]? = some (.cells #[.int .i64 0, .slice none 0 0, .slice none 0 0, .slice none 0 0] 51 (0, 0)) ∧ wr.heap[w.heap.size]? = some (.cells #[.int .i64 2, .int .i64 addr, .int .i64 (M : Int), .int .i64 to_, .slice h.1 h.2.1 h.2.2, .slice k.1 k.2.1 k.2.2, u16v and_, u16v or_] 58 (0, 0)) ∧ wr.ownsRow BB 4 1 (.slice Ao j co) j ((Word.bitsOf p j).map bitv) ∧ Below w.heap.size w wr ∧ BB ≤ wr.heap.size ∧ Lies u8v wr A p) (fun i _ => 8 * m - (intOf i).toNat)
      case atStart => exact ⟨0, none, 0, Nat.zero_le _, Nat.zero_le _, rfl, hyV, hxV, hrV, World.ownsRow_nil _ _ _ _, hbV, hBle, hlp⟩
      case round =>
        obtain ⟨j, Ao, co, hjM, hjm, rfl, hyr, hxr, hrr, hown, hbr, hBr, hpr⟩ := hrel
        obtain ⟨z0, z1, z2, z3⟩ := row_quad hyr
        obtain ⟨r0, r1, r2, -⟩ := row_eight hrr
        have iw : IntKind.i64.wrap (8 * (m : Int)) = 8 * (m : Int) := by rw [IntKind.wrap_i64]; omega
        by_cases hlt : j < M ∧ j < 8 * m
        · obtain ⟨hltM, hltm⟩ := hlt
          have i1 : (j : Int) < (M : Int) := by omega
          have i2 : (j : Int) < 8 * (m : Int) := by omega
          have hq : j / 8 < p.length := by have := HM.out; omega
          obtain ⟨b2, o2, hA2, hc1⟩ := hpr (j / 8) hq
          have HV : Hid (Word.bitAt p j = decide ((p[j / 8]).toNat / 2 ^ (j % 8) % 2 = 1)) := qh (by unfold Word.bitAt; rw [List.getD_eq_getElem?_getD, List.getElem?_eq_getElem hq, Option.getD_some])
          have hx8 := (p[j / 8]).toNat_lt
          have HS := qh (Word.bitsOf_succ' p j)
          have HPR := qh hpr
          unfold u8v at hc1
          generalize (p[j / 8]).toNat = y8 at hc1 HV hx8
          have hr8 : j % 8 < 8 := by omega
          have hj16 : j ≤ 160000 := by omega
          have hq' : (j : Int) / 8 < (m : Int) := by omega
          have HO := qh hown
          clear hpr hq hown
          subst hA2
          go_wp2_with fail
          go_loop [8, 9] (fun cv kv => ∃ k : Nat, k ≤ j % 8 ∧ kv = .int .i64 k ∧ cv = .int .i64 ((y8 / 2 ^ k : Nat) : Int)) (fun _ kv => 8 - (intOf kv).toNat)
          case atStart => exact ⟨0, by omega, rfl, by rw [Nat.pow_zero, Nat.div_one]⟩
          case round =>
            obtain ⟨k, hk, rfl, rfl⟩ := hrel
            have HH := qh (half_pow y8 k)
            have hyx : y8 / 2 ^ k ≤ y8 := Nat.div_le_self _ _
            by_cases hlt2 : k < j % 8
            · have hlk : (k : Int) < (j : Int) % 8 := by omega
              generalize y8 / 2 ^ k = y at *
              go_wp2
              go_round
              case rel => exact ⟨k + 1, by omega, by simp, by rw [HH.out]; simp⟩
              case measure => simp [intOf]; omega
            · have hlk : ¬ ((k : Int) < (j : Int) % 8) := by omega
              obtain rfl : k = j % 8 := by omega
              have HN : Hid ([Value.bool (((y8 / 2 ^ (j % 8) : Nat) : Int) % 2 == 1)] = [Word.bitAt p j].map bitv) := qh (by rw [half_beq, ← HV.out]; rfl)
              clear HV HH
              generalize y8 / 2 ^ (j % 8) = y at *
              obtain ⟨Bt, hBt⟩ : ∃ Bt, ((y : Int) % 2 == 1) = Bt := ⟨_, rfl⟩
              rw [hBt] at HN
              have hba := (Below.refl BB wr).alloc hBr (.cells #[.bool Bt] 4)
              have hyra := row_later hyr ((Below.refl _ wr).alloc (zq _) (.cells #[.bool Bt] 4))
              obtain ⟨za0, za1, za2, za3⟩ := row_quad hyra
              go_wp2_with (at_builtin; go_must (refine wpList_append_lies kitb oneb _ rfl (.tmp 68) (.tmp 72) rfl BB _ j (Word.bitsOf p j) rfl (own_below HO.out ((Below.refl _ wr).alloc (zq _) (.cells #[.bool Bt] 4))) (some ⟨wr.heap.size, 0, none⟩) 1 1 [Word.bitAt p j] rfl rfl (lies_new (f := bitv) wr #[.bool Bt] 4 [Word.bitAt p j] HN.out) (by omega) (by unfold maxLen; omega) (by simp; omega) ?_; intro A2 c2 w5 hown2 hg2 hb2; have hbw2 := hba.trans hb2; have hyr5 := (hbw2.block _ (show w.heap.size + 1 + 1 < BB by omega)).trans hyr; obtain ⟨zb0, zb1, zb2, zb3⟩ := row_quad hyr5; obtain ⟨zf0, zf1, zf2, zf3⟩ := row_quad_free hyr5))
              go_roundw
              case rel =>
                refine ⟨j + 1, A2, c2, by omega, by omega, by simp, by simpa using row_set hyr5 (i := 1) (.slice A2 (j + 1) c2), row_set_far ((hbw2.block _ (by omega)).trans hxr) (by omega) _, row_set_far ((hbw2.block _ (by omega)).trans hrr) (by omega) _, ?_, (hbr.trans (hbw2.mono (by omega))).setCell (p := ⟨w.heap.size + 1 + 1, 1, none⟩) hgw _, by have := hbw2.size; simp [World.setCell]; omega, lies_set (lies_low HPR.out HPB.out hbw2) HPG.out 1 _⟩
                rw [HS.out]
                exact own_set hown2 (by omega) _
              case measure => simp [intOf]; omega
        · obtain ⟨hoc, hom, hol, hoy⟩ := own_at hown
          have HIN : Hid (RB = Word.bitsOf p j) := qh (by rw [HG.out]; congr 1; omega)
          have HX4 := qh hxr
          have HB4 := qh hbr
          have HA4 : Hid (AnsIn wr ⟨0, RB, [], []⟩ (Ao, j, co) (none, 0, 0) (none, 0, 0)) := qh (by rw [HIN.out]; exact ⟨hol, hoc, hom, hoy, rfl, zq _, Nat.zero_le _, Lies.nil _ _, rfl, zq _, Nat.zero_le _, Lies.nil _ _, by intro s hs; cases hs⟩)
          clear hpr hown HG hoc hom hol hoy HIN
          by_cases hM2 : j < M
          · have i1 : (j : Int) < (M : Int) := by omega
            have i2 : ¬ (j : Int) < 8 * (m : Int) := by omega
            have HS4 := qh (stored_four HX4.out (.int .i64 0) (.slice Ao j co) (.slice none 0 0) (.slice none 0 0))
            have HE : Hid (GPost7 w ⟨0, RB, [], []⟩ (.returned (ansV ⟨0, RB, [], []⟩ (Ao, j, co) (none, 0, 0) (none, 0, 0))) _) := qh (GPost7.mk ((HA4.out).four HX4.out (.int .i64 0) (.slice Ao j co) (.slice none 0 0) (.slice none 0 0)) ((but_four (g := w.heap.size + 1) (But.of_below HB4.out (zq _) []) (.inr (by omega)) (.int .i64 0) (.slice Ao j co) (.slice none 0 0) (.slice none 0 0)).below (by simp) (zq _)))
            obtain ⟨z0, z1, z2, z3⟩ := row_quad hxr
            obtain ⟨y0, y1, y2, y3⟩ := row_quad_free hxr
            obtain ⟨v0, v1, v2, v3⟩ := row_quad hyr
            have hltz : w.heap.size + 1 < wr.heap.size := row_lt hxr
            have hltz2 : w.heap.size + 1 + 1 < wr.heap.size := row_lt hyr
            go_wp2_with fail
            obtain ⟨s0, s1, s2, s3⟩ := row_quad HS4.out
            refine bodyPost_ret_by (v := ansV ⟨0, RB, [], []⟩ (Ao, j, co) (none, 0, 0) (none, 0, 0)) (by simp [ansV, results, Tryz.f60, go_sem, s0, s1, s2, s3]) rfl ?_
            exact HE.out
          · have i1 : ¬ (j : Int) < (M : Int) := by omega
            have HS4 := qh (stored_four HX4.out (.int .i64 0) (.slice Ao j co) (.slice none 0 0) (.slice none 0 0))
            have HE : Hid (GPost7 w ⟨0, RB, [], []⟩ (.returned (ansV ⟨0, RB, [], []⟩ (Ao, j, co) (none, 0, 0) (none, 0, 0))) _) := qh (GPost7.mk ((HA4.out).four HX4.out (.int .i64 0) (.slice Ao j co) (.slice none 0 0) (.slice none 0 0)) ((but_four (g := w.heap.size + 1) (But.of_below HB4.out (zq _) []) (.inr (by omega)) (.int .i64 0) (.slice Ao j co) (.slice none 0 0) (.slice none 0 0)).below (by simp) (zq _)))
            obtain ⟨z0, z1, z2, z3⟩ := row_quad hxr
            obtain ⟨y0, y1, y2, y3⟩ := row_quad_free hxr
            obtain ⟨v0, v1, v2, v3⟩ := row_quad hyr
            have hltz : w.heap.size + 1 < wr.heap.size := row_lt hxr
            have hltz2 : w.heap.size + 1 + 1 < wr.heap.size := row_lt hyr
            go_wp2_with fail
            obtain ⟨s0, s1, s2, s3⟩ := row_quad HS4.out
            refine bodyPost_ret_by (v := ansV ⟨0, RB, [], []⟩ (Ao, j, co) (none, 0, 0) (none, 0, 0)) (by simp [ansV, results, Tryz.f60, go_sem, s0, s1, s2, s3]) rfl ?_
            exact HE.out
end Go.Proofs.YtlgmjnjhdamknaaGreat
