
/- A part of the proof of the law MasterDoes. -/
import Derived.Test.YtlgmjnjhdamknaaGreatMem
import Derived.Test.YtlgmjnjhdamknaaGreatGs7
import Derived.Lib.MinMax
import Derived.Deep.RegionHeld3
import Derived.Deep.DrawnRows
import Derived.Deep.Cut
import Derived.Deep.CutRange
import Derived.Deep.DeepCutAuto
namespace Go.Proofs.YtlgmjnjhdamknaaGreat
open Go.RowKit

attribute [local go_sem ↓] Go.wp_at_zero Go.wp_at_succ

theorem An.cutF_short {f : Nat} {l : List UInt8} (h : l.length < 2) : An.cutF f l = [] := by
  rcases f with _ | f
  · rfl
  · match l, h with
    | [], _ => rfl
    | [_], _ => rfl
theorem An.cutF_stop {f : Nat} {l : List UInt8} (h2 : 1 < l.length) (h : l.length < 2 + (l[1]).toNat) : An.cutF f l = [] := by
  rcases f with _ | f
  · rfl
  · match l, h2, h with
    | x :: y :: r, _, h =>
      show (if r.length < y.toNat then [] else _) = []
      rw [if_pos (by simp only [List.length_cons] at h; have h3 : ((x :: y :: r)[1]).toNat = y.toNat := rfl; omega)]
theorem An.cutF_next {f : Nat} {l : List UInt8} (h2 : 1 < l.length) (h : 2 + (l[1]).toNat ≤ l.length) (hf : l.length ≤ f) : An.cutF f l = (⟨((l.drop 2).take (l[1]).toNat).toArray⟩ : ByteArray) :: An.cutF (f - 1) (l.drop (2 + (l[1]).toNat)) := by
  rcases f with _ | f
  · omega
  · match l, h2, h, hf with
    | x :: y :: r, _, h, hf =>
      have h3 : ((x :: y :: r)[1]).toNat = y.toNat := rfl
      show (if r.length < y.toNat then [] else _) = _
      rw [if_neg (by simp only [List.length_cons] at h; omega), h3]
      have e : (x :: y :: r).drop (2 + y.toNat) = r.drop y.toNat := by rw [← List.drop_drop]; rfl
      rw [e]
      rfl
set_option maxRecDepth 100000 in
set_option maxHeartbeats 1000000 in
theorem rguess7_43 (addr count to_ : Int) (words : List UInt16) (bits : List Bool) (and_ or_ : UInt16) (h k : Hd) (B : Option Addr) (n cc : Nat) (b : List UInt8) (hn : b.length = n) (hnc : n ≤ cc) (hcm : cc ≤ maxLen) (hm : n ≤ 600) (hno : ¬ (n = 2 ∧ ((b.getD 0 0).toNat : Int) = 128 + 43)) (w : World) (hb : Lies u8v w B b) :
    Calls Tryz.prog 60 #[askV ⟨43, addr, count, to_, words, bits, and_, or_⟩ h k, .slice B n cc] w (GPost7 w ⟨0, [], [], An.cut (b.drop 7)⟩) := by
  obtain ⟨hra, hrx, hbW, -, -⟩ := two_new7 w #[.int .i64 43, .int .i64 addr, .int .i64 count, .int .i64 to_, .slice h.1 h.2.1 h.2.2, .slice k.1 k.2.1 k.2.2, u16v and_, u16v or_] #[.int .i64 0, .slice none 0 0, .slice none 0 0, .slice none 0 0] 58 51
  have hlW := hb.below hbW (zq _)
  have HN := qh hn
  have HR := qh hra
  have HX := qh hrx
  have HB := qh hbW
  have HL := qh hlW
  have HCM := qh hcm
  have HSZ : Hid ((((w.alloc (.cells #[.int .i64 43, .int .i64 addr, .int .i64 count, .int .i64 to_, .slice h.1 h.2.1 h.2.2, .slice k.1 k.2.1 k.2.2, u16v and_, u16v or_] 58)).alloc (.cells #[.int .i64 0, .slice none 0 0, .slice none 0 0, .slice none 0 0] 51))).heap.size = w.heap.size + 1 + 1) := qh (by simp)
  unfold maxLen at hcm
  obtain ⟨RT, hRT⟩ : ∃ RT, An.cut (b.drop 7) = RT := ⟨_, rfl⟩
  rw [hRT]
  have HRT := qh hRT
  clear hRT
  rw [askV_eq]
  obtain ⟨r0, r1, r2, r3, r4, r5, r6, r7⟩ := row_eight hra
  clear hb hra hrx hbW
  go_enter Tryz.func60, Tryz.ntmps60
  go_upto_region 1 with fail
  generalize ((w.alloc (.cells #[.int .i64 43, .int .i64 addr, .int .i64 count, .int .i64 to_, .slice h.1 h.2.1 h.2.2, .slice k.1 k.2.1 k.2.2, u16v and_, u16v or_] 58)).alloc (.cells #[.int .i64 0, .slice none 0 0, .slice none 0 0, .slice none 0 0] 51)) = W at *
  go_cut [23] (fun cv wx => cv = .bool false ∧ ∃ q, wx = W.drewN q)
  case first =>
    by_cases hn2 : n = 2
    · have hl2 : 0 < b.length := by omega
      obtain ⟨bb, bo, rfl, _, hcs⟩ := hlW.at_ hl2
      have q0 := hcs 0 hl2
      have e0 : b.getD 0 0 = b[0] := by rw [List.getD_eq_getElem?_getD, List.getElem?_eq_getElem hl2]; rfl
      rw [e0] at hno
      have hx0 := (b[0]).toNat_lt
      unfold u8v at q0
      rw [Nat.add_zero] at q0
      generalize (b[0]).toNat = m0 at *
      have h0n : 0 < n := by omega
      have e13 : ((n : Int) == 2) = true := by rw [hn2]; rfl
      have e2 : ((m0 : Int) == 171) = false := by rw [beq_eq_false_iff_ne]; intro e; exact hno ⟨hn2, by rw [e]; rfl⟩
      clear hno hn2 hl2 e0 hcs hlW hn
      go_quiet (fail)
      go_wp2_with fail
      go_meet
      exact ⟨rfl, _, rfl⟩
    · have e13 : ((n : Int) == 2) = false := by rw [beq_eq_false_iff_ne]; omega
      clear hno hn2 hlW hn
      go_quiet (fail)
      go_wp2_with fail
      go_meet
      exact ⟨rfl, _, rfl⟩
  case rest =>
    obtain ⟨rfl, q, rfl⟩ := hcut
    have hrV : (W.drewN q).heap[w.heap.size]? = _ := HR.out
    have hxV : (W.drewN q).heap[w.heap.size + 1]? = _ := HX.out
    have hbV : Below w.heap.size w (W.drewN q) := drewN_below HB.out q
    have hlV : Lies u8v (W.drewN q) B b := HL.out.drewN q
    have hsV : (W.drewN q).heap.size = w.heap.size + 1 + 1 := HSZ.out
    clear HR HX HB HL HSZ hlW hno r0 r1 r2 r3 r4 r5 r6 r7
    generalize W.drewN q = V at *
    have hrV2 := old_at7 hrV (.cells #[.int .i64 0, .slice none 0 0, .slice none 0 0, .slice none 0 0] 51)
    have hxV2 := old_at7 hxV (.cells #[.int .i64 0, .slice none 0 0, .slice none 0 0, .slice none 0 0] 51)
    have hyV2 := row_at V #[.int .i64 0, .slice none 0 0, .slice none 0 0, .slice none 0 0] 51 (w.heap.size + 1 + 1) hsV
    have hb2 : Below w.heap.size w (V.alloc (.cells #[.int .i64 0, .slice none 0 0, .slice none 0 0, .slice none 0 0] 51)) := hbV.alloc hbV.size _
    have hs2 : (V.alloc (.cells #[.int .i64 0, .slice none 0 0, .slice none 0 0, .slice none 0 0] 51)).heap.size = w.heap.size + 1 + 1 + 1 := by simp [hsV]
    have HV := qh (And.intro hrV2 (And.intro hxV2 (And.intro hyV2 (And.intro hb2 hs2))))
    have HLV := qh hlV
    have HNN := qh hn
    clear hrV hxV hbV hrV2 hxV2 hyV2 hb2 hs2 hlV hn
    go_upto_region 4 with fail
    go_cut [6] (fun s6 wx => (∃ A m c', s6 = .slice A m c' ∧ Hid ((b.drop 2).length = m) ∧ m ≤ c' ∧ c' ≤ maxLen ∧ Hid (Lies u8v V A (b.drop 2))) ∧ wx = V.alloc (.cells #[.int .i64 0, .slice none 0 0, .slice none 0 0, .slice none 0 0] 51))
    case first =>
      by_cases h2 : 2 ≤ n
      · have hmin : min (2 : Int) (n : Int) = 2 := by omega
        have hnn : (2 : Int) ≤ (n : Int) := by omega
        have hcc2 : (2 : Int) ≤ (cc : Int) := by omega
        rcases B with _ | ⟨ab, ao, as_⟩
        · exact absurd (HLV.out 0 (by rw [HNN.out]; omega)) (by rintro ⟨_, _, g, _⟩; cases g)
        · by_cases hc2 : cc = 2
          · have hm0 : Hid ((b.drop 2).length = 0) := qh (by rw [List.length_drop, HNN.out]; omega)
            have hl0 : Hid (Lies u8v V (some ⟨ab, ao, as_⟩) (b.drop 2)) := qh (by rw [List.drop_eq_nil_of_le (by have := HNN.out; omega)]; exact Lies.nil _ _)
            subst hc2
            go_wp2_with fail
            go_meet
            exact ⟨⟨_, 0, _, rfl, hm0, by omega, by unfold maxLen; omega, hl0⟩, rfl⟩
          · have hm0 : Hid ((b.drop 2).length = n - 2) := qh (by rw [List.length_drop, HNN.out])
            have hl0 := qh (drop_past HLV.out 2)
            go_wp2_with fail
            go_meet
            exact ⟨⟨_, n - 2, _, rfl, hm0, by omega, by have := HCM.out; omega, hl0⟩, rfl⟩
      · have hmin : min (2 : Int) (n : Int) = (n : Int) := by omega
        have hnil : b.drop 2 = [] := List.drop_eq_nil_of_le (by have := HNN.out; omega)
        have hm0 : Hid ((b.drop 2).length = 0) := qh (by rw [hnil]; simp)
        have hl0 : ∀ A, Hid (Lies u8v V A (b.drop 2)) := fun A => qh (by rw [hnil]; exact Lies.nil _ _)
        have HL0 := qh hl0
        have hcc2 : (n : Int) ≤ (cc : Int) := by omega
        clear hnil hl0
        rcases B with _ | ⟨ab, ao, as_⟩
        · have h0 : n = 0 := by
            rcases Nat.eq_zero_or_pos n with h | h
            · exact h
            · exact absurd (HLV.out 0 (by rw [HNN.out]; omega)) (by rintro ⟨_, _, g, _⟩; cases g)
          subst h0
          go_wp2_with fail
          go_meet
          exact ⟨⟨_, 0, _, rfl, hm0, by omega, by have := HCM.out; omega, HL0.out _⟩, rfl⟩
        · by_cases hc2 : cc = n
          · subst hc2
            go_wp2_with fail
            go_meet
            exact ⟨⟨_, 0, _, rfl, hm0, by omega, by have := HCM.out; omega, HL0.out _⟩, rfl⟩
          · go_wp2_with fail
            go_meet
            exact ⟨⟨_, 0, _, rfl, hm0, by omega, by have := HCM.out; omega, HL0.out _⟩, rfl⟩
    case rest =>
      obtain ⟨⟨A, m, c', rfl, HM, hmc, hmm, HLB⟩, rfl⟩ := hcut
      obtain ⟨hrV, hxV, hyV, hbV, hsV⟩ := HV.out
      have hlb := HLB.out.alloc (.cells #[.int .i64 0, .slice none 0 0, .slice none 0 0, .slice none 0 0] 51)
      have hla := HLV.out.alloc (.cells #[.int .i64 0, .slice none 0 0, .slice none 0 0, .slice none 0 0] 51)
      clear HV HLB HLV
      generalize V.alloc (.cells #[.int .i64 0, .slice none 0 0, .slice none 0 0, .slice none 0 0] 51) = V2 at *
      obtain ⟨r0, r1, r2, r3, r4, r5, r6, r7⟩ := row_eight hrV
      have hlt0 : w.heap.size < V2.heap.size := by omega
      have hlt2 : w.heap.size + 1 + 1 < V2.heap.size := by omega
      have hm600 : m ≤ 600 := by have h1 := HM.out; rw [List.length_drop, HNN.out] at h1; omega
      obtain ⟨BB, hBB⟩ : ∃ BB, V2.heap.size = BB := ⟨_, rfl⟩
      have hBV : ∀ b' o' s', B = some ⟨b', o', s'⟩ → 0 < b.length → b' < V2.heap.size := fun b' o' s' e h0 => by
        obtain ⟨_, _, e', hc⟩ := hla 0 h0
        rw [e] at e'
        cases e'
        exact World.block_lt_of_cell? _ _ hc
      have hag := far_row (g := w.heap.size + 1 + 1) hyV hla (fun y j v hv => by rcases cells_quad hv with rfl | ⟨_, _, _, rfl⟩ <;> simp)
      have HPG : Hid (∀ b' o' s', B = some ⟨b', o', s'⟩ → 0 < b.length → b' ≠ w.heap.size + 1 + 1) := qh (fun b' o' s' e h0 hq => hag b' o' s' e h0 (by simp [hq]))
      rw [hBB] at hBV hlt0 hlt2 hsV
      have HPB := qh hBV
      have hBle : BB ≤ V2.heap.size := Nat.le_of_eq hBB.symm
      have hgw : w.heap.size ≤ w.heap.size + 1 + 1 := by omega
      have HSTART : Hid (RT = [] ++ An.cutF (b.drop 7).length (b.drop 7)) := qh (by rw [← HRT.out]; rfl)
      clear hag hBV hBB hlb HRT r1 r2 r3 r4 r5 r6 r7 HM hmc hmm hm600
      go_wp2_with fail
      go_loopw [10] (fun i wr => ∃ (t j : Nat) (Ao : Option Addr) (co : Nat) (ts : List ByteArray) (f : Nat), t ≤ 900 ∧ 2 * j + 7 ≤ t ∧ i = .int .i64 t ∧ Hid (wr.heap[w.heap.size + 1 + 1]? = some (.cells #[.int .i64 0, .slice none 0 0, .slice none 0 0, .slice Ao j co] 51 (0, 0))) ∧ Hid (wr.heap[w.heap.size + 1]? = some (.cells #[.int .i64 0, .slice none 0 0, .slice none 0 0, .slice none 0 0] 51 (0, 0))) ∧ wr.ownsRow BB 9 1 (.slice Ao j co) j (ts.map strv) ∧ Hid (RT = ts ++ An.cutF f (b.drop t)) ∧ Hid ((b.drop t).length ≤ f) ∧ Hid (∀ s ∈ ts, s.size ≤ 255) ∧ Hid (Below w.heap.size w wr) ∧ BB ≤ wr.heap.size ∧ Lies u8v wr B b) (fun i _ => 901 - (intOf i).toNat)
      case atStart => exact ⟨7, 0, none, 0, [], _, by omega, by omega, rfl, qh hyV, qh hxV, World.ownsRow_nil _ _ _ _, HSTART, qh (zq _), qh (by simp), qh hbV, hBle, hla⟩
      case round =>
        clear hyV hxV hbV hBle hla HSTART
        obtain ⟨t, j, Ao, co, ts, f, ht9, htj, rfl, HY, HX, hown, HRT, HF, HS5, HB, hBr, hpr⟩ := hrel
        have hyr := HY.out
        have hxr := HX.out
        by_cases h1 : t + 1 < n
        · have h1' : (t : Int) + 1 < (n : Int) := by omega
          have hq : t + 1 < b.length := by have := HNN.out; omega
          obtain ⟨bb, bo, rfl, hc1⟩ := hpr (t + 1) hq
          have hd1 : 1 < (b.drop t).length := by rw [List.length_drop]; omega
          have hdv : (b.drop t)[1] = b[t + 1] := by rw [List.getElem_drop]
          have hv8 := (b[t + 1]).toNat_lt
          obtain ⟨v, hv⟩ : ∃ v, (b[t + 1]).toNat = v := ⟨_, rfl⟩
          unfold u8v at hc1
          rw [hv] at hc1 hv8
          have hc1 : wr.cell? ⟨bb, bo + (t + 1), none⟩ = some (.int .u8 (v : Int)) := hc1
          by_cases h2 : t + 2 + v ≤ n
          · have h2' : (t : Int) + 2 + (v : Int) ≤ (n : Int) := by omega
            have HNX := qh (An.cutF_next (f := f) hd1 (by rw [hdv, hv, List.length_drop, HNN.out]; omega) HF.out)
            rw [hdv, hv, List.drop_drop, List.drop_drop] at HNX
            obtain ⟨z0, z1, z2, z3⟩ := row_quad hyr
            have hld : ((b.drop (t + 2)).take v).length = v := by rw [List.length_take, List.length_drop, HNN.out]; omega
            obtain ⟨sl, hsl⟩ : ∃ sl, (b.drop (t + 2)).take v = sl := ⟨_, rfl⟩
            rw [hsl] at HNX hld
            obtain ⟨s, hs⟩ : ∃ s : ByteArray, (⟨sl.toArray⟩ : ByteArray) = s := ⟨_, rfl⟩
            have hss : s.size ≤ 255 := by rw [← hs, str_of, hld]; omega
            rw [hs] at HNX
            have HNXT : Hid (RT = (ts ++ [s]) ++ An.cutF (f - 1) (b.drop (t + 2 + v))) := qh (by rw [HRT.out, HNX.out, ← Nat.add_assoc]; simp)
            have HF1 : Hid ((b.drop (t + 2 + v)).length ≤ f - 1) := qh (by have h3 := HF.out; rw [List.length_drop] at h3 ⊢; omega)
            have HS51 : Hid (∀ x ∈ ts ++ [s], x.size ≤ 255) := qh (by
              intro x hx
              rw [List.mem_append, List.mem_singleton] at hx
              rcases hx with hx | rfl
              · exact HS5.out x hx
              · exact hss)
            have HKS : Hid (∀ X : World, Lies strv (X.alloc (.cells #[.string s] 9)) (some ⟨X.heap.size, 0, none⟩) [s]) := qh (fun X => lies_at X _ _ _ _ rfl rfl)
            have HPR := qh hpr
            have hbne : ¬ bb = w.heap.size + 1 + 1 := HPG.out bb bo none rfl (by omega)
            have hbne2 : ¬ w.heap.size + 1 + 1 = bb := fun e => hbne e.symm
            have hbBB : bb < BB := HPB.out bb bo none rfl (by omega)
            have HC1 : Hid (∀ V, Below BB wr V → V.cell? ⟨bb, bo + (t + 1), none⟩ = some (.int .u8 (v : Int))) := qh (fun V hV => (World.cell?_of_block (w := wr) (a := ⟨bb, bo + (t + 1), none⟩) (hV.block bb hbBB)).trans hc1)
            have HOX : Hid (World.ownsRow ((wr.alloc (.cells #[.string s] 9)).drew) BB 9 1 (.slice Ao j co) j (ts.map strv)) := qh (show World.ownsRow (wr.alloc (.cells #[.string s] 9)) BB 9 1 (.slice Ao j co) j (ts.map strv) from hown.alloc _)
            have HKX : Hid (Lies strv ((wr.alloc (.cells #[.string s] 9)).drew) (some ⟨wr.heap.size, 0, none⟩) [s]) := qh (HKS.out wr).drew
            have HBZ : Hid (BB ≤ ((wr.alloc (.cells #[.string s] 9)).drew).heap.size) := qh (by simp; omega)
            have HBX : Hid (Below BB wr wr.drew ∧ ∀ o, Below BB wr (wr.alloc o).drew) := qh ⟨drewN_below (Below.refl _ wr) 1, fun o => drewN_below ((Below.refl _ wr).alloc hBr o) 1⟩
            have g1 : wr.drew.cell? ⟨w.heap.size + 1 + 1, 3, none⟩ = some (.slice Ao j co) := z3
            have g3 : (wr.alloc (.cells #[.string s] 9)).cell? ⟨w.heap.size + 1 + 1, 3, none⟩ = some (.slice Ao j co) := (row_quad (old_at7 hyr _)).2.2.2
            have g2 : wr.drew.cell? ⟨bb, bo + (t + 1), none⟩ = some (.int .u8 (v : Int)) := hc1
            have w1 : IntKind.i64.wrap ((t : Int) + 1) = (t : Int) + 1 := by rw [IntKind.wrap_i64]; omega
            have w2 : IntKind.i64.wrap ((t : Int) + 2) = (t : Int) + 2 := by rw [IntKind.wrap_i64]; omega
            have w3 : IntKind.i64.wrap ((t : Int) + 2 + (v : Int)) = (t : Int) + 2 + (v : Int) := by rw [IntKind.wrap_i64]; omega
            have wv : IntKind.i64.wrap (v : Int) = (v : Int) := by rw [IntKind.wrap_i64]; omega
            have mx : max ((t : Int) + 2 + (v : Int)) 0 = (t : Int) + 2 + (v : Int) := by omega
            have i0 : (0 : Int) ≤ (t : Int) + 1 := by omega
            have i5 : (0 : Int) ≤ (t : Int) + 2 + (v : Int) := by omega
            have i2 : (0 : Int) ≤ (t : Int) + 2 := by omega
            have i3 : (t : Int) + 2 ≤ (t : Int) + 2 + (v : Int) := by omega
            have i4 : (t : Int) + 2 + (v : Int) ≤ (cc : Int) := by omega
            have n1 : ((t : Int) + 1).toNat = t + 1 := by omega
            have n2 : ((t : Int) + 2).toNat = t + 2 := by omega
            have n3 : ((t : Int) + 2 + (v : Int)).toNat = t + 2 + v := by omega
            by_cases hcc : cc = t + 2
            · subst hcc
              obtain rfl : v = 0 := by omega
              have hcv : (convert 41 9 (.slice (some ⟨bb, bo, none⟩) 0 0)).run Tryz.prog wr.drew = .ok (.string s) wr.drew := by
                rw [← hs]
                have hl5 : Lies u8v wr.drew (some ⟨bb, bo, none⟩) sl := by rw [List.eq_nil_of_length_eq_zero hld]; exact Lies.nil _ _
                exact conv_lies wr.drew _ 0 _ sl hld hl5
              have HC0 : Hid (∀ V, Below BB wr V → V.cell? ⟨bb, bo + (t + 1), none⟩ = some (.int .u8 0)) := HC1
              have g2' : wr.drew.cell? ⟨bb, bo + (t + 1), none⟩ = some (.int .u8 0) := g2
              have hc1' : wr.cell? ⟨bb, bo + (t + 1), none⟩ = some (.int .u8 0) := hc1
              rw [Nat.add_zero] at HNXT HF1
              have w0 : IntKind.i64.wrap 0 = 0 := by rw [IntKind.wrap_i64]; omega
              have mx0 : max ((t : Int) + 2) 0 = (t : Int) + 2 := by omega
              clear g2
              clear hd1 hdv hv hq hown hpr hs hsl hld HNX w3 i3 i4 i5 n3 mx wv hv8 hc1 HC1
              go_wp2_with fail
              go_region_law (first | (refine step_append_own kits ones _ (by rfl) (.tmp 107) (.tmp 122) (by rfl) BB _ j ts (by rfl) HOX.out (some ⟨wr.heap.size, 0, none⟩) 1 1 [s] (by rfl) rfl HKX.out (by omega) (by unfold maxLen; omega) HBZ.out ?_; intro A2 c2 w5 hown2 hg2 hb2; have hbw5 := (HBX.out.2 _).trans hb2; have hy5 := (hbw5.block _ (show w.heap.size + 1 + 1 < BB by omega)).trans HY.out; obtain ⟨zb0, zb1, zb2, zb3⟩ := row_quad hy5; obtain ⟨zf0, zf1, zf2, zf3⟩ := row_quad_free hy5; have zc5 := HC0.out _ hbw5) | fail)
              all_goals (
                go_wp2_with fail
                go_roundw
                case rel => exact ⟨t + 2, j + 1, A2, c2, ts ++ [s], f - 1, by omega, by omega, by go_num, qh (by simpa using row_set hy5 (i := 3) (.slice A2 (j + 1) c2)), qh (row_set_far ((hbw5.block _ (by omega)).trans HX.out) (by omega) _), own_set hown2 (by omega) _, HNXT, HF1, HS51, qh ((HB.out.trans (hbw5.mono (by omega))).setCell (p := ⟨w.heap.size + 1 + 1, 3, none⟩) hgw _), by have := hbw5.size; simp [World.setCell]; omega, lies_set (lies_low HPR.out HPB.out hbw5) HPG.out 3 _⟩
                case measure => simp [intOf]; omega)
            · have hcv : (convert 41 9 (.slice (some ⟨bb, bo + (t + 2), none⟩) v (cc - (t + 2)))).run Tryz.prog wr.drew = .ok (.string s) wr.drew := by
                rw [← hs]
                have hl5 : Lies u8v wr.drew (some ⟨bb, bo + (t + 2), none⟩) sl := by rw [← hsl]; exact ((hpr.drew).drop (t + 2)).take v
                exact conv_lies wr.drew _ v _ sl hld hl5
              clear hd1 hdv hv hq hown hpr hs hsl hld HNX
              go_wp2_with fail
              go_region_law (first | (refine step_append_own kits ones _ (by rfl) (.tmp 107) (.tmp 122) (by rfl) BB _ j ts (by rfl) HOX.out (some ⟨wr.heap.size, 0, none⟩) 1 1 [s] (by rfl) rfl HKX.out (by omega) (by unfold maxLen; omega) HBZ.out ?_; intro A2 c2 w5 hown2 hg2 hb2; have hbw5 := (HBX.out.2 _).trans hb2; have hy5 := (hbw5.block _ (show w.heap.size + 1 + 1 < BB by omega)).trans HY.out; obtain ⟨zb0, zb1, zb2, zb3⟩ := row_quad hy5; obtain ⟨zf0, zf1, zf2, zf3⟩ := row_quad_free hy5; have zc5 := HC1.out _ hbw5) | fail)
              all_goals (
                go_wp2_with fail
                go_roundw
                case rel => exact ⟨t + 2 + v, j + 1, A2, c2, ts ++ [s], f - 1, by omega, by omega, by go_num, qh (by simpa using row_set hy5 (i := 3) (.slice A2 (j + 1) c2)), qh (row_set_far ((hbw5.block _ (by omega)).trans HX.out) (by omega) _), own_set hown2 (by omega) _, HNXT, HF1, HS51, qh ((HB.out.trans (hbw5.mono (by omega))).setCell (p := ⟨w.heap.size + 1 + 1, 3, none⟩) hgw _), by have := hbw5.size; simp [World.setCell]; omega, lies_set (lies_low HPR.out HPB.out hbw5) HPG.out 3 _⟩
                case measure => simp [intOf]; omega)
          · have h2' : ¬ (t : Int) + 2 + (v : Int) ≤ (n : Int) := by omega
            have HEND : Hid (RT = ts) := qh (by rw [HRT.out, An.cutF_stop hd1 (by rw [hdv, hv, List.length_drop, HNN.out]; omega), List.append_nil])
            obtain ⟨hoc, hom, hol, hoy⟩ := own_at hown
            have HB4 := HB
            have HX4 := HX
            have HA4 : Hid (AnsIn wr ⟨0, [], [], RT⟩ (none, 0, 0) (none, 0, 0) (Ao, j, co)) := qh (by rw [HEND.out]; exact ⟨rfl, zq _, Nat.zero_le _, Lies.nil _ _, rfl, zq _, Nat.zero_le _, Lies.nil _ _, hol, hoc, hom, hoy, fun s hs => Nat.le_trans (HS5.out s hs) (by omega)⟩)
            clear hown hoc hom hol hoy hpr
            have HS4 := qh (stored_four HX4.out (.int .i64 0) (.slice none 0 0) (.slice none 0 0) (.slice Ao j co))
            have HE : Hid (GPost7 w ⟨0, [], [], RT⟩ (.returned (ansV ⟨0, [], [], RT⟩ (none, 0, 0) (none, 0, 0) (Ao, j, co))) _) := qh (GPost7.mk ((HA4.out).four HX4.out (.int .i64 0) (.slice none 0 0) (.slice none 0 0) (.slice Ao j co)) ((but_four (g := w.heap.size + 1) (But.of_below HB4.out (zq _) []) (.inr (by omega)) (.int .i64 0) (.slice none 0 0) (.slice none 0 0) (.slice Ao j co)).below (by simp) (zq _)))
            obtain ⟨z0, z1, z2, z3⟩ := row_quad hxr
            obtain ⟨y0, y1, y2, y3⟩ := row_quad_free hxr
            obtain ⟨v0, v1, v2, v3⟩ := row_quad hyr
            have hltz : w.heap.size + 1 < wr.heap.size := row_lt hxr
            have hltz2 : w.heap.size + 1 + 1 < wr.heap.size := row_lt hyr
            go_wp2_with fail
            obtain ⟨s0, s1, s2, s3⟩ := row_quad HS4.out
            refine bodyPost_ret_by (v := ansV ⟨0, [], [], RT⟩ (none, 0, 0) (none, 0, 0) (Ao, j, co)) (by simp [ansV, results, Tryz.f60, go_sem, s0, s1, s2, s3]) rfl ?_
            exact HE.out
        · have h1' : ¬ (t : Int) + 1 < (n : Int) := by omega
          have HEND : Hid (RT = ts) := qh (by rw [HRT.out, An.cutF_short (by rw [List.length_drop, HNN.out]; omega), List.append_nil])
          obtain ⟨hoc, hom, hol, hoy⟩ := own_at hown
          have HB4 := HB
          have HX4 := HX
          have HA4 : Hid (AnsIn wr ⟨0, [], [], RT⟩ (none, 0, 0) (none, 0, 0) (Ao, j, co)) := qh (by rw [HEND.out]; exact ⟨rfl, zq _, Nat.zero_le _, Lies.nil _ _, rfl, zq _, Nat.zero_le _, Lies.nil _ _, hol, hoc, hom, hoy, fun s hs => Nat.le_trans (HS5.out s hs) (by omega)⟩)
          clear hown hoc hom hol hoy hpr
          have HS4 := qh (stored_four HX4.out (.int .i64 0) (.slice none 0 0) (.slice none 0 0) (.slice Ao j co))
          have HE : Hid (GPost7 w ⟨0, [], [], RT⟩ (.returned (ansV ⟨0, [], [], RT⟩ (none, 0, 0) (none, 0, 0) (Ao, j, co))) _) := qh (GPost7.mk ((HA4.out).four HX4.out (.int .i64 0) (.slice none 0 0) (.slice none 0 0) (.slice Ao j co)) ((but_four (g := w.heap.size + 1) (But.of_below HB4.out (zq _) []) (.inr (by omega)) (.int .i64 0) (.slice none 0 0) (.slice none 0 0) (.slice Ao j co)).below (by simp) (zq _)))
          obtain ⟨z0, z1, z2, z3⟩ := row_quad hxr
          obtain ⟨y0, y1, y2, y3⟩ := row_quad_free hxr
          obtain ⟨v0, v1, v2, v3⟩ := row_quad hyr
          have hltz : w.heap.size + 1 < wr.heap.size := row_lt hxr
          have hltz2 : w.heap.size + 1 + 1 < wr.heap.size := row_lt hyr
          go_wp2_with fail
          obtain ⟨s0, s1, s2, s3⟩ := row_quad HS4.out
          refine bodyPost_ret_by (v := ansV ⟨0, [], [], RT⟩ (none, 0, 0) (none, 0, 0) (Ao, j, co)) (by simp [ansV, results, Tryz.f60, go_sem, s0, s1, s2, s3]) rfl ?_
          exact HE.out
end Go.Proofs.YtlgmjnjhdamknaaGreat
