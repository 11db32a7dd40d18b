
/- A part of the proof of the law MasterDoes. -/
import Derived.Test.YtlgmjnjhdamknaaGreatMem
import Derived.Test.YtlgmjnjhdamknaaGreatRe7
import Derived.Test.YtlgmjnjhdamknaaGreatRm
import Derived.Test.YtlgmjnjhdamknaaGreatRs2
namespace Go.Proofs.YtlgmjnjhdamknaaGreat
open Go.RowKit

theorem kits : EK Tryz.prog 44 9 (.string ⟨#[]⟩) 16 := ⟨Tryz.underlying44, by kernel_rfl, rfl⟩
theorem ones : ∀ x : ByteArray, (strv x).oneCell' = true := fun _ => rfl
def TextsPost (w : World) (q : Nat) (o : Option (List ByteArray × List UInt8)) (e : Ending) (w' : World) : Prop :=
  match o with
  | none => GavePost w q e w'
  | some (l, r) => ∃ A n c, e = .returned (.slice A n c) ∧ l.length = n ∧ n ≤ c ∧ c ≤ maxLen ∧ Lies strv w' A l ∧ RdAt w' q r ∧ But [q] w w'
theorem TextsPost.none {w : World} {q : Nat} {o : Option (List ByteArray × List UInt8)} {e : Ending} {w' : World} (ho : o = Option.none) (h : GavePost w q e w') : TextsPost w q o e w' := by
  subst ho; exact h
theorem TextsPost.some {w : World} {q : Nat} {o : Option (List ByteArray × List UInt8)} {l : List ByteArray} {r : List UInt8} {w' : World} {A : Option Addr} {n c : Nat} (ho : o = Option.some (l, r)) (h1 : l.length = n) (h2 : n ≤ c) (h3 : c ≤ maxLen) (h4 : Lies strv w' A l) (h5 : RdAt w' q r) (h6 : But [q] w w') : TextsPost w q o (.returned (.slice A n c)) w' := by
  subst ho; exact ⟨A, n, c, rfl, h1, h2, h3, h4, h5, h6⟩
theorem far_own {w : World} {B g n : Nat} {e : TypeId} {xs : List ByteArray} {A : Option Addr} {l : List UInt8} (h : w.ownsRow B e 1 (.slice (some ⟨g, 0, none⟩) n n) n (xs.map strv)) (hl : Lies u8v w A l) : ∀ b o s, A = some ⟨b, o, s⟩ → 0 < l.length → b ∉ [g] := by
  rcases h.2 with ⟨h', _⟩ | ⟨g', cap, cur, hv, _, hg, _, _, hcs, htake⟩
  · cases h'
  · simp only [Value.slice.injEq, Option.some.injEq, Addr.mk.injEq, and_true, true_and] at hv
    obtain ⟨rfl, rfl⟩ := hv
    refine far_row hg hl fun x i v hv => ?_
    have hi : cur.toList[i]? = some v := by rw [Array.getElem?_toList]; exact hv
    have hlt : i < n * 1 := by
      have := (Array.getElem?_eq_some_iff.1 hv).1
      omega
    have h2 : (cur.toList.take (n * 1))[i]? = some v := by rw [List.getElem?_take, if_pos hlt]; exact hi
    rw [htake, List.getElem?_map] at h2
    obtain ⟨y, _, rfl⟩ := Option.map_eq_some_iff.1 h2
    simp
theorem An.textsR_step {i k : Nat} {b r : List UInt8} {s : ByteArray} (h : An.textAt i b = some (s, r)) (hk : 0 < k) (pre : List ByteArray) : (An.textsR i k b).map (fun x => (pre ++ x.1, x.2)) = (An.textsR (i + 1) (k - 1) r).map (fun x => (pre ++ [s] ++ x.1, x.2)) := by
  obtain ⟨k, rfl⟩ : ∃ k', k = k' + 1 := ⟨k - 1, by omega⟩
  have e : An.textsR i (k + 1) b = (An.textsR (i + 1) k r).map fun x => (s :: x.1, x.2) := by
    simp only [An.textsR, h]
  rw [e, Nat.add_sub_cancel, Option.map_map]
  congr 1
  funext x
  simp
theorem An.textsR_stop {i k : Nat} {b : List UInt8} (h : An.textAt i b = Option.none) (hk : 0 < k) : An.textsR i k b = Option.none := by
  obtain ⟨k, rfl⟩ : ∃ k', k = k' + 1 := ⟨k - 1, by omega⟩
  simp only [An.textsR, h]
theorem set_take {α : Type} (cs : List α) (j : Nat) (x : α) (h : j < cs.length) : (cs.set j x).take (j + 1) = cs.take j ++ [x] := by
  rw [List.take_succ_eq_append_getElem (by rw [List.length_set]; exact h), List.getElem_set_self, List.take_set_of_le (zq _)]
theorem str_of (l : List UInt8) : (⟨l.toArray⟩ : ByteArray).size = l.length := by simp [ByteArray.size]

set_option maxRecDepth 100000 in
set_option maxHeartbeats 2000000 in
theorem rtexts7_any (a : Ask) (h k : Hd) (q an : Nat) (b : List UInt8) (han : a.addr = (an : Int)) (ha1 : an ≤ 65535) (hc0 : 0 ≤ a.count) (hc1 : a.count ≤ 255) (w : World) (hr : RdAt w q b) :
    Calls Tryz.prog 187 #[.pointer (some ⟨q, 0, none⟩), askV a h k] w (TextsPost w q (An.textsAll a b)) := by
  obtain ⟨code, addr, count, to, words, bits, and_, or_⟩ := a
  obtain rfl : addr = (an : Int) := han
  obtain ⟨i0, hi0, hz0, hz1, hz2⟩ := info_parts kits.hi
  have hra := row_at w #[.int .i64 code, .int .i64 (an : Int), .int .i64 count, .int .i64 to, .slice h.1 h.2.1 h.2.2, .slice k.1 k.2.1 k.2.2, u16v and_, u16v or_] 40 w.heap.size rfl
  have hb0 : Below w.heap.size w (w.alloc (.cells #[.int .i64 code, .int .i64 (an : Int), .int .i64 count, .int .i64 to, .slice h.1 h.2.1 h.2.2, .slice k.1 k.2.1 k.2.2, u16v and_, u16v or_] 40)) := (Below.refl _ _).alloc (zq _) _
  have hqw := hr.lt
  have HAH := qh (fun W => ahead7_any ⟨code, (an : Int), count, to, words, bits, and_, or_⟩ h k hc0 hc1 W)
  rw [askV_eq] at HAH
  rw [askV_eq]
  obtain ⟨P, hP⟩ : ∃ P, An.ahead ⟨code, (an : Int), count, to, words, bits, and_, or_⟩ = P := ⟨_, rfl⟩
  obtain ⟨O, hO⟩ : ∃ O, An.textsAll ⟨code, (an : Int), count, to, words, bits, and_, or_⟩ b = O := ⟨_, rfl⟩
  have HO : Hid (O = match An.justR P b with | none => none | some [] => none | some (n :: r) => An.textsR an n.toNat r) := qh (by rw [← hO, ← hP]; rfl)
  rw [hP] at HAH
  rw [hO]
  clear hO hP hc0 hc1
  have hr0 := hr.below hb0
  go_enter Tryz.func187, Tryz.ntmps187
  go_wp2_with fail
  refine (HAH.out _).mono ?_
  rintro e w1 ⟨A1, n1, c1, rfl, hn1, hown1, hb1⟩
  obtain ⟨-, -, -, hl1⟩ := own_at hown1
  have hr1 := hr0.below hb1
  have hbw1 := hb0.trans (hb1.mono hb0.size)
  have hra1 := row_later hra hb1
  cases hj : An.justR P b with
  | none =>
    have HJ := qh (just_no q b P A1 n1 c1 hn1 w1 hl1 hr1 hj)
    rw [hj] at HO
    clear hj hr hr0 hr1 hown1 hl1 hb1
    go_wp2_with fail
    refine HJ.out.mono ?_
    rintro e w2 ⟨he, hb2⟩
    obtain rfl := he
    have HE : Hid (GavePost w q (.panicked [{ v := .iface 28 (.int .i64 2), recovered := false }]) w2) := qh ⟨rfl, (But.of_below hbw1 (zq _) [q]).trans hb2⟩
    go_wp2_with fail
    exact ⟨rfl, TextsPost.none HO.out HE.out⟩
  | some b2 =>
    have HJ := qh (just_yes q b P b2 A1 n1 c1 hn1 w1 hl1 hr1 hj)
    rw [hj] at HO
    clear hj hr hr0 hr1 hown1 hl1 hb1
    go_wp2_with fail
    refine HJ.out.mono ?_
    rintro e w2 ⟨rfl, hr2, hb2⟩
    have hbw2 : But [q] w w2 := (But.of_below hbw1 (zq _) [q]).trans hb2
    have hra2 : w2.heap[w.heap.size]? = some _ := row_but hra1 hb2 (by simp; omega)
    have hlt2 : w.heap.size < w2.heap.size := row_lt hra2
    cases b2 with
    | nil =>
      have HNo := qh (number_no q w2 hr2)
      clear hr2
      go_wp2_with fail
      refine HNo.out.mono ?_
      rintro e w3 ⟨he, hb3⟩
      obtain rfl := he
      have HE : Hid (GavePost w q (.panicked [{ v := .iface 28 (.int .i64 2), recovered := false }]) w3) := qh ⟨rfl, hbw2.trans hb3⟩
      go_wp2_with fail
      exact ⟨rfl, TextsPost.none HO.out HE.out⟩
    | cons x b3 =>
      have HNo := qh (number_yes q x b3 w2 hr2)
      clear hr2
      have hO : O = An.textsR an x.toNat b3 := HO.out
      have hx := x.toNat_lt
      obtain ⟨n, hn⟩ : ∃ n, x.toNat = n := ⟨_, rfl⟩
      rw [hn] at hO hx
      have HON := qh hO
      have HXN := qh hn
      clear hO hn HO
      go_wp2_with fail
      refine HNo.out.mono ?_
      rintro e w3 ⟨rfl, hr3, hb3⟩
      rw [HXN.out]
      have hbw3 : But [q] w w3 := hbw2.trans hb3
      have hra3 := row_but hra2 hb3 (by simp; omega)
      have hlt3 : w.heap.size < w3.heap.size := row_lt hra3
      clear hra2 hra1 hra hb3 hb2 hbw2 hbw1 hb0 HNo HJ HAH
      go_wp2_with (at_make; go_must (refine wpList_make_full _ rfl _ _ 44 rfl w3.heap.size 9 i0 (.string ⟨#[]⟩) 1 kits.ht hi0 hz0 hz1 .i64 .i64 _ _ n rfl rfl (by omega) (by omega) (by rw [hz2]; omega) (by unfold maxLen; omega) (zq _) ?_); intro w4 hown4 hg4)
      have hb4 : Below w3.heap.size w3 w4 := (Below.refl _ _).grown hg4 (zq _) (by simp)
      have hr4 := hr3.below hb4
      have hra4 := row_later hra3 hb4
      have hbw4 : But [q] w w4 := hbw3.trans (But.of_below hb4 (zq _) [q])
      have hqg : q < w3.heap.size := by omega
      generalize w3.heap.size = g at *
      clear hb4 hg4 hr3 hra3 hbw3
      go_loopw [16] (fun iv wr => ∃ (j : Nat) (bj : List UInt8) (cs : List ByteArray), j ≤ n ∧ iv = .int .i64 j ∧ Hid (cs.length = n) ∧ Hid (O = (An.textsR (an + j) (n - j) bj).map (fun x => (cs.take j ++ x.1, x.2))) ∧ RdAt wr q bj ∧ wr.ownsRow g 9 1 (.slice (some ⟨g, 0, none⟩) n n) n (cs.map strv) ∧ Hid (wr.heap[w.heap.size]? = some (.cells #[.int .i64 code, .int .i64 (an : Int), .int .i64 count, .int .i64 to, .slice h.1 h.2.1 h.2.2, .slice k.1 k.2.1 k.2.2, u16v and_, u16v or_] 40 (0, 0))) ∧ But [q] w wr) (fun iv _ => n - (intOf iv).toNat)
      case atStart =>
        refine ⟨0, b3, List.replicate n ⟨#[]⟩, Nat.zero_le _, rfl, qh (by simp), qh (by rw [HON.out]; simp), hr4, ?_, qh hra4, hbw4⟩
        rw [List.map_replicate, ← toList_madeCells_one, Nat.mul_one] at *
        exact hown4
      case round =>
        clear hown4 hr4 hra4 hbw4 w4 HON
        obtain ⟨j, bj, cs, hj, rfl, HC, HOJ, hrj, hown, HRA, hbwr⟩ := hrel
        have hltr : w.heap.size < wr.heap.size := row_lt HRA.out
        by_cases hlt : j < n
        · have i1 : (j : Int) < (n : Int) := by omega
          cases ht : An.textAt (an + j) bj with
          | none =>
            have HON : Hid (O = none) := qh (by rw [HOJ.out, An.textsR_stop ht (by omega)]; rfl)
            have e3 : IntKind.i64.wrap ((an : Int) + (j : Int)) = ((an + j : Nat) : Int) := by rw [IntKind.wrap_i64]; omega
            have HRD : Hid (wr.drew.cell? ⟨w.heap.size, 1, none⟩ = some (.int .i64 (an : Int))) := qh (row_eight HRA.out).2.1
            have HGV : Hid (∀ V, But [q] wr V → TextsPost w q O (.panicked [{ v := .iface 28 (.int .i64 2), recovered := false }]) V) := qh (fun V hV => TextsPost.none HON.out ⟨rfl, hbwr.trans hV⟩)
            have HDW : Hid (But [q] wr wr.drew) := qh ((But.refl [q] wr).drewN 1)
            cases bj with
            | nil =>
              have HNo := qh (number_no q wr.drew hrj)
              clear hrj hown ht
              have r1 := HRD.out
              go_wp2_with fail
              go_region_with (first | (go_at_call 183; (with_reducible refine HNo.out.mono ?_); rintro e w5 ⟨he, hb5⟩; obtain rfl := he; refine (fun (_ : wpAny Tryz.prog .any #[] (fun _ _ _ => True) 0 #[] { tmps := #[], defers := [] } w5) => And.intro rfl (HGV.out _ (HDW.out.trans hb5))) ?_) | fail)
              all_goals exact trivial
            | cons p rj =>
              have HNo := qh (number_yes q p rj wr.drew hrj)
              have HRB : Hid (∀ V, But [q] wr.drew V → V.cell? ⟨w.heap.size, 1, none⟩ = some (.int .i64 (an : Int))) := qh (fun V hV => (row_eight (row_but (show wr.drew.heap[w.heap.size]? = _ from HRA.out) hV (by simp; omega))).2.1)
              have hpl := p.toNat_lt
              rw [An.textAt_cons] at ht
              obtain ⟨pn, hpn⟩ : ∃ pn, p.toNat = pn := ⟨_, rfl⟩
              have HPN := qh hpn
              rw [hpn] at hpl ht
              clear hrj hown hpn
              have r1 := HRD.out
              by_cases hp : pn = an + j
              · rw [if_pos hp] at ht
                have hct : An.countedR rj = none := by
                  cases hc : An.countedR rj with
                  | none => rfl
                  | some x => rw [hc] at ht; cases ht
                have HCo := qh (fun V hV => counted_no q rj V hV hct)
                have e5 : ((pn : Int) == (an : Int) + (j : Int)) = true := beq_iff_eq.2 (by omega)
                clear hp hct ht
                go_wp2_with fail
                go_region_with (first | (go_at_call 183; (with_reducible refine HNo.out.mono ?_); rintro e w5 ⟨rfl, hr5, hb5⟩; rw [HPN.out]; have r15 := HRB.out _ hb5) | (go_at_call 181; (with_reducible refine (need_yes _).mono ?_); rintro e w6 ⟨rfl, rfl⟩) | fail)
                all_goals (
                  go_wp2_with fail
                  refine (HCo.out _ hr5).mono ?_
                  rintro e w7 ⟨he, hb7⟩
                  obtain rfl := he
                  have HE := qh (HGV.out _ ((HDW.out.trans hb5).trans hb7))
                  go_wp2_with fail
                  exact And.intro rfl HE.out)
              · have e5 : ((pn : Int) == (an : Int) + (j : Int)) = false := by rw [beq_eq_false_iff_ne]; omega
                clear ht hp
                go_wp2_with fail
                go_region_with (first | (go_at_call 183; (with_reducible refine HNo.out.mono ?_); rintro e w5 ⟨rfl, hr5, hb5⟩; rw [HPN.out]; have r15 := HRB.out _ hb5) | (go_at_call 181; (with_reducible refine (need_no _).mono ?_); rintro e w6 ⟨he, rfl⟩; obtain rfl := he; refine (fun (_ : wpAny Tryz.prog .any #[] (fun _ _ _ => True) 0 #[] { tmps := #[], defers := [] } w6) => And.intro rfl (HGV.out _ (HDW.out.trans hb5))) ?_) | fail)
                all_goals exact trivial
          | some sr =>
            obtain ⟨s, r⟩ := sr
            have HSTEP : Hid (O = (An.textsR (an + (j + 1)) (n - (j + 1)) r).map (fun x => ((cs.set j s).take (j + 1) ++ x.1, x.2))) := qh (by
              rw [HOJ.out, An.textsR_step ht (by omega), set_take cs j s (by rw [HC.out]; exact hlt), show an + (j + 1) = an + j + 1 by omega, show n - (j + 1) = n - j - 1 by omega])
            have e3 : IntKind.i64.wrap ((an : Int) + (j : Int)) = ((an + j : Nat) : Int) := by rw [IntKind.wrap_i64]; omega
            have HRD : Hid (wr.drew.cell? ⟨w.heap.size, 1, none⟩ = some (.int .i64 (an : Int))) := qh (row_eight HRA.out).2.1
            have HDW : Hid (But [q] wr wr.drew) := qh ((But.refl [q] wr).drewN 1)
            cases bj with
            | nil => cases ht
            | cons p rj =>
              have HNo := qh (number_yes q p rj wr.drew hrj)
              have HRB : Hid (∀ V, But [q] wr.drew V → V.cell? ⟨w.heap.size, 1, none⟩ = some (.int .i64 (an : Int))) := qh (fun V hV => (row_eight (row_but (show wr.drew.heap[w.heap.size]? = _ from HRA.out) hV (by simp; omega))).2.1)
              have hpl := p.toNat_lt
              rw [An.textAt_cons] at ht
              obtain ⟨pn, hpn⟩ : ∃ pn, p.toNat = pn := ⟨_, rfl⟩
              have HPN := qh hpn
              rw [hpn] at hpl ht
              clear hrj hpn HOJ
              have r1 := HRD.out
              have hp : pn = an + j := by
                by_cases hp : pn = an + j
                · exact hp
                · rw [if_neg hp] at ht; cases ht
              rw [if_pos hp] at ht
              obtain ⟨⟨pl, r'⟩, hct, hsr⟩ := Option.map_eq_some_iff.1 ht
              simp only [Prod.mk.injEq] at hsr
              obtain ⟨hs, rfl⟩ := hsr
              have HCo := qh (fun V hV => counted_yes q rj pl r' V hV hct)
              have e5 : ((pn : Int) == (an : Int) + (j : Int)) = true := beq_iff_eq.2 (by omega)
              have hp255 := (An.countedR_some hct).1
              have HOWN : Hid (∀ V, But [q] wr V → V.ownsRow g 9 1 (.slice (some ⟨g, 0, none⟩) n n) n (cs.map strv)) := qh (fun V hV => own_but hown hV (by intro g' e; simp [Value.ownBlock] at e; subst e; simp; omega))
              have HRAV : Hid (∀ V, But [q] wr V → V.heap[w.heap.size]? = some (.cells #[.int .i64 code, .int .i64 (an : Int), .int .i64 count, .int .i64 to, .slice h.1 h.2.1 h.2.2, .slice k.1 k.2.1 k.2.2, u16v and_, u16v or_] 40 (0, 0))) := qh (fun V hV => row_but HRA.out hV (by simp; omega))
              have HS := qh hs
              clear hp hct ht hown hs
              go_wp2_with fail
              go_region_with (first | (go_at_call 183; (with_reducible refine HNo.out.mono ?_); rintro e w5 ⟨rfl, hr5, hb5⟩; rw [HPN.out]; have r15 := HRB.out _ hb5) | (go_at_call 181; (with_reducible refine (need_yes _).mono ?_); rintro e w6 ⟨rfl, rfl⟩) | fail)
              all_goals (
                go_wp2_with fail
                refine (HCo.out _ hr5).mono ?_
                rintro e w7 ⟨A7, c7, rfl, f1, f2, f3, f4, f5⟩
                have hb7 := (HDW.out.trans hb5).trans f5
                have hown7 := HOWN.out _ hb7
                have hci := hown7.cellAt j (by omega)
                have hfi := hown7.frozenAt j
                rw [List.getElem?_map, List.getElem?_eq_getElem (by have := HC.out; omega), Option.map_some] at hci
                have hcv := conv_lies w7 A7 pl.length c7 pl rfl f3
                rw [HS.out] at hcv
                have hgl := (hown7.lt g rfl).2
                have hst := qh ((hown7.stored j (strv s)).1)
                rw [show (List.map strv cs).set j (strv s) = (cs.set j s).map strv by rw [List.map_set]] at hst
                have HFR := qh (fun A hA => far_own (A := A) (l := r') hown7 hA)
                have HF4 := qh f4
                clear f1 f2 f3 f4
                generalize pl.length = m7 at *
                go_wp2_with fail
                have hbg : But [g] w7 (w7.setCell ⟨g, j, none⟩ (strv s)) := (But.refl [g] w7).setCell (p := ⟨g, j, none⟩) (.inl (by simp)) _
                exact ⟨⟨j + 1, r', cs.set j s, by omega, by go_num, qh (by rw [List.length_set]; exact HC.out), HSTEP, HF4.out.but hbg (by simp; omega) (fun A hA => HFR.out A hA), hst.out, qh (row_but (HRAV.out _ hb7) hbg (by simp; omega)), (hbwr.trans hb7).setCell (p := ⟨g, j, none⟩) (.inr (by simp; omega)) _⟩, by simp [intOf]; omega⟩)
        · obtain rfl : j = n := by omega
          have i1 : ¬ (j : Int) < (j : Int) := by omega
          have HON : Hid (O = some (cs, bj)) := qh (by
            rw [HOJ.out, Nat.sub_self, show cs.take j = cs by rw [← HC.out, List.take_length]]
            show some (cs ++ [], bj) = _
            rw [List.append_nil])
          obtain ⟨g1, g2, g3, g4⟩ := own_at hown
          have HE : Hid (TextsPost w q O (.returned (.slice (some ⟨g, 0, none⟩) j j)) wr) := qh (TextsPost.some HON.out HC.out (zq _) g2 g4 hrj hbwr)
          clear hown hrj g1 g2 g3 g4
          go_wp2_with fail
          go_ret
          exact HE.out

end Go.Proofs.YtlgmjnjhdamknaaGreat

namespace Go.Proofs.YtlgmjnjhdamknaaGreat
open Go.RowKit

set_option maxRecDepth 100000 in
set_option maxHeartbeats 400000 in
theorem equals_any (A1 A2 : Option Addr) (n m c d : Nat) (l k : List ByteArray) (hn : l.length = n) (hm : k.length = m) (hmn : n ≤ maxLen) (w : World) (h1 : Lies strv w A1 l) (h2 : Lies strv w A2 k) :
    Calls Tryz.prog 53 #[.slice A1 n c, .slice A2 m d] w fun e w' => e = .returned (.bool (decide (l = k))) ∧ ∃ q, w' = w.drewN q := by
  subst hn
  subst hm
  unfold maxLen at hmn
  by_cases hlen : l.length = k.length
  · have he : ((l.length : Int) != (k.length : Int)) = false := by rw [hlen]; simp
    have HLEN := qh hlen
    have hle : l.length ≤ k.length := by omega
    clear hlen
    go_enter Tryz.func53, Tryz.ntmps53
    go_wp2
    go_loopw [5, 13] (fun _ i wr => ∃ j : Nat, j ≤ l.length ∧ i = .int .i64 j ∧ l.take j = k.take j ∧ ∃ q, wr = w.drewN q) (fun _ i _ => l.length - (intOf i).toNat)
    case atStart => exact ⟨0, Nat.zero_le _, rfl, rfl, 0, rfl⟩
    case round =>
      obtain ⟨j, hj, rfl, ht, q, rfl⟩ := hrel
      have HT := qh ht
      clear ht
      by_cases hlt : j < l.length
      · obtain ⟨b1, o1, rfl, hc1⟩ := h1 j hlt
        have hlt2 : j < k.length := by omega
        obtain ⟨b2, o2, rfl, hc2⟩ := h2 j hlt2
        by_cases hx : l[j] = k[j]
        · have HS := qh (take_step l k j hlt hlt2 HT.out hx)
          rw [← hx] at hc2
          have hq := str_self l[j]
          clear hx
          generalize l[j] = x at *
          go_wp2
          go_quiet (fail)
          go_wp2
          go_roundw
          case rel => exact ⟨j + 1, by omega, by go_num, HS.out, _, rfl⟩
          case measure => simp [intOf]; omega
        · have HS : Hid (decide (l = k) = false) := qh (decide_eq_false (by rintro rfl; exact hx rfl))
          have hq := str_ne hx
          rw [Go.beq_toListBytes] at hq
          clear hx
          generalize l[j] = x at *
          generalize k[j] = y at *
          go_wp2
          go_quiet (fail)
          go_wp2
          go_ret
          exact ⟨by rw [HS.out]; rfl, _, World.drewN_drewN _ _ _⟩
      · obtain rfl : j = l.length := by omega
        have HS : Hid (decide (l = k) = true) := qh (decide_eq_true (take_none HLEN.out HT.out))
        go_wp2
        go_ret
        exact ⟨by rw [HS.out]; rfl, _, rfl⟩
  · have he : ((l.length : Int) != (k.length : Int)) = true := by rw [bne_iff_ne]; omega
    have HS : Hid (decide (l = k) = false) := qh (decide_eq_false (by rintro rfl; exact hlen rfl))
    clear hlen
    go_enter Tryz.func53, Tryz.ntmps53
    go_wp2
    go_ret
    exact ⟨by rw [HS.out]; rfl, 0, rfl⟩

set_option maxRecDepth 100000 in
set_option maxHeartbeats 4000000 in
theorem same7_any (x y : Ans) (h k t h' k' t' : Hd) (w : World) (hx : AnsIn w x h k t) (hy : AnsIn w y h' k' t') :
    Calls Tryz.prog 27 #[ansV x h k t, ansV y h' k' t'] w fun e w' => e = .returned (.bool (An.same x y)) ∧ Below w.heap.size w w' := by
  obtain ⟨exc, bits, words, texts⟩ := x
  obtain ⟨exc', bits', words', texts'⟩ := y
  obtain ⟨hA, hn, hc⟩ := h
  obtain ⟨kA, kn, kc⟩ := k
  obtain ⟨tA, tn, tc⟩ := t
  obtain ⟨hA', hn', hc'⟩ := h'
  obtain ⟨kA', kn', kc'⟩ := k'
  obtain ⟨tA', tn', tc'⟩ := t'
  have hb2 : Below w.heap.size w ((w.alloc (.cells #[.int .i64 exc, .slice hA hn hc, .slice kA kn kc, .slice tA tn tc] 46)).alloc (.cells #[.int .i64 exc', .slice hA' hn' hc', .slice kA' kn' kc', .slice tA' tn' tc'] 46)) := ((Below.refl _ _).alloc (zq _) _).alloc (by simp) _
  have hrx := old_at7 (row_at w #[.int .i64 exc, .slice hA hn hc, .slice kA kn kc, .slice tA tn tc] 46 w.heap.size rfl) (.cells #[.int .i64 exc', .slice hA' hn' hc', .slice kA' kn' kc', .slice tA' tn' tc'] 46)
  have hry := row_at (w.alloc (.cells #[.int .i64 exc, .slice hA hn hc, .slice kA kn kc, .slice tA tn tc] 46)) #[.int .i64 exc', .slice hA' hn' hc', .slice kA' kn' kc', .slice tA' tn' tc'] 46 (w.heap.size + 1) (by simp)
  have e1 := qh (And.intro hx.hn (And.intro hy.hn (And.intro hx.kn (And.intro hy.kn (And.intro hx.tn hy.tn)))))
  have HX := qh (hx.below hb2)
  have HY := qh (hy.below hb2)
  have m1 : hn ≤ maxLen := Nat.le_trans hx.hc hx.hm
  have m2 : kn ≤ maxLen := Nat.le_trans hx.kc hx.km
  have m3 : tn ≤ maxLen := Nat.le_trans hx.tc hx.tm
  simp only at e1
  clear hx hy
  obtain ⟨V, hV⟩ : ∃ V, An.same ⟨exc, bits, words, texts⟩ ⟨exc', bits', words', texts'⟩ = V := ⟨_, rfl⟩
  have HF : Hid (V = (exc == exc' && bits == bits' && words == words' && decide (texts = texts'))) := qh (by rw [← hV]; rfl)
  rw [hV]
  clear hV
  have HE1 := qh (fun W h1 h2 => equalb_any hA hA' hn hn' hc hc' bits bits' e1.out.1 e1.out.2.1 m1 W h1 h2)
  have HE2 := qh (fun W h1 h2 => equal16_any kA kA' kn kn' kc kc' words words' e1.out.2.2.1 e1.out.2.2.2.1 m2 W h1 h2)
  have HE3 := qh (fun W h1 h2 => equals_any tA tA' tn tn' tc tc' texts texts' e1.out.2.2.2.2.1 e1.out.2.2.2.2.2 m3 W h1 h2)
  unfold ansV
  go_enter Tryz.func27, Tryz.ntmps27
  obtain ⟨x0, x1, x2, x3⟩ := row_quad hrx
  obtain ⟨y0, y1, y2, y3⟩ := row_quad hry
  clear hrx hry m1 m2 m3 e1
  by_cases he : exc = exc'
  · subst he
    have hee : (exc == exc) = true := by simp
    cases hbt : (bits == bits') with
    | false =>
      rw [hbt] at HF HE1
      go_wp2_with fail
      refine (HE1.out _ HX.out.hl HY.out.hl).mono ?_
      rintro e w2 ⟨rfl, q, rfl⟩
      go_wp2_with fail
      go_ret
      exact ⟨by rw [HF.out]; simp, drewN_below hb2 _⟩
    | true =>
      rw [hbt] at HF HE1
      cases hwt : (words == words') with
      | false =>
        rw [hwt] at HF HE2
        go_wp2_with fail
        refine (HE1.out _ HX.out.hl HY.out.hl).mono ?_
        rintro e w2 ⟨rfl, q, rfl⟩
        go_wp2_with fail
        refine (HE2.out _ (HX.out.kl.drewN q) (HY.out.kl.drewN q)).mono ?_
        rintro e w2 ⟨rfl, q2, rfl⟩
        go_wp2_with fail
        go_ret
        exact ⟨by rw [HF.out]; simp, drewN_below hb2 _⟩
      | true =>
        rw [hwt] at HF HE2
        go_wp2_with fail
        refine (HE1.out _ HX.out.hl HY.out.hl).mono ?_
        rintro e w2 ⟨rfl, q, rfl⟩
        go_wp2_with fail
        refine (HE2.out _ (HX.out.kl.drewN q) (HY.out.kl.drewN q)).mono ?_
        rintro e w2 ⟨rfl, q2, rfl⟩
        go_wp2_with fail
        refine (HE3.out _ (HX.out.tl.drewN _) (HY.out.tl.drewN _)).mono ?_
        rintro e w2 ⟨rfl, q3, rfl⟩
        go_wp2_with fail
        go_ret
        exact ⟨by rw [HF.out]; simp, drewN_below hb2 _⟩
  · have hee : (exc == exc') = false := beq_eq_false_iff_ne.2 he
    go_wp2_with fail
    go_ret
    exact ⟨by rw [HF.out, hee]; simp, hb2⟩
end Go.Proofs.YtlgmjnjhdamknaaGreat

namespace Go.Proofs.YtlgmjnjhdamknaaGreat
open Go.RowKit

namespace An
def sumT : Nat → List ByteArray → Nat
  | n, [] => n
  | n, s :: r => sumT (n + (2 + s.size)) r
theorem sumT_le (l : List ByteArray) : ∀ n, n ≤ sumT n l := by
  induction l with
  | nil => intro n; exact zq _
  | cons s r ih => intro n; have := ih (n + (2 + s.size)); show _ ≤ sumT (n + (2 + s.size)) r; omega
theorem longF_small (l : List ByteArray) : ∀ n, (longF n l ≤ 253 ↔ sumT n l ≤ 253) := by
  induction l with
  | nil => intro n; exact Iff.rfl
  | cons s r ih =>
    intro n
    by_cases h : n < 1000
    · rw [longF_cons n s r h, ih, Nat.add_assoc]; rfl
    · rw [longF_stop _ _ h]
      have := sumT_le (s :: r) n
      omega
theorem sumT_snoc (l : List ByteArray) (s : ByteArray) : ∀ n, sumT n (l ++ [s]) = sumT n l + (2 + s.size) := by
  induction l with
  | nil => intro n; rfl
  | cons t r ih => intro n; exact ih _
def textsC (a : Ask) (l : List ByteArray) : Bool :=
  if a.code = 43 then decide (0 < l.length) && decide (a.addr + l.length ≤ 256) && l.all (fun s => decide (s.size ≤ 245)) && decide (sumT 7 l ≤ 253) else decide (l.length = 0)
def comesC (a : Ask) (x : Ans) : Bool :=
  if x.exc = 0 then decide ((x.bits.length : Int) = wantBits a x) && decide ((x.words.length : Int) = wantWords a x) && textsC a x.texts
  else decide (1 ≤ x.exc) && decide (x.exc ≤ 255) && same x ⟨x.exc, [], [], []⟩
theorem comesC_eq {a : Ask} (h : Ak.right a = true) (x : Ans) : comesC a x = right a x := by
  unfold comesC right
  rw [h]
  by_cases hx : x.exc = 0
  · rw [if_pos hx, hx]
    by_cases hc : a.code = 43
    · have hw : wantTexts a x = true := by unfold wantTexts; rw [hx, hc]; rfl
      rw [hw]
      unfold textsC
      rw [if_pos hc]
      have hs : shortTexts x.texts = (x.texts.take 300).all (fun s => decide (s.size ≤ 245)) := rfl
      by_cases hl : a.addr + x.texts.length ≤ 256
      · have ha0 : 0 ≤ a.addr := (Ak.formed_parts (ak_right h).1).2.2.2.2.2.2.1
        rw [hs, List.take_of_length_le (by omega)]
        have h7 := longF_small x.texts 7
        have e7 : decide (long x.texts ≤ 253) = decide (sumT 7 x.texts ≤ 253) := by unfold long; exact decide_eq_decide.2 h7
        rw [e7]
        simp [hl, Bool.and_assoc, Bool.and_comm, Bool.and_left_comm]
      · simp [hl]
    · have hw : wantTexts a x = false := by unfold wantTexts; rw [beq_eq_false_iff_ne.2 hc, Bool.and_false]
      rw [hw]
      unfold textsC
      rw [if_neg hc]
      cases hl : x.texts with
      | nil => simp [shortTexts]
      | cons s r => simp
  · rw [if_neg hx]
    have hw : wantTexts a x = false := by unfold wantTexts; rw [beq_eq_false_iff_ne.2 hx, Bool.false_and]
    have hb : wantBits a x = 0 := by unfold wantBits; rw [if_neg (fun g => hx g.1)]
    have hk : wantWords a x = 0 := by unfold wantWords; rw [if_neg (fun g => hx g.1)]
    rw [hw, hb, hk]
    obtain ⟨exc, bits, words, texts⟩ := x
    unfold same
    simp only at *
    have e0 : decide (0 ≤ exc) = decide (1 ≤ exc) := decide_eq_decide.2 (by omega)
    rw [e0]
    cases bits with
    | cons y r => simp; intros; omega
    | nil => cases words with
      | cons y r => simp; intros; omega
      | nil => cases texts with
        | cons y r => simp
        | nil => simp [shortTexts]
end An

set_option maxRecDepth 100000 in
set_option maxHeartbeats 1000000 in
theorem textsCome_any (a : Ask) (h k : Hd) (A : Option Addr) (n c : Nat) (l : List ByteArray) (hn : l.length = n) (hm : n ≤ 1000000) (ha0 : 0 ≤ a.addr) (ha1 : a.addr ≤ 65535) (hts : ∀ s ∈ l, s.size ≤ 140737488355328) (w : World) (hl : Lies strv w A l) :
    Calls Tryz.prog 95 #[askV a h k, .slice A n c] w fun e w' => e = .returned (.bool (An.textsC a l)) ∧ Below w.heap.size w w' := by
  obtain ⟨code, addr, count, to, words, bits, and_, or_⟩ := a
  obtain ⟨an, rfl⟩ := Int.eq_ofNat_of_zero_le (show 0 ≤ addr from ha0)
  have ha1 : (an : Int) ≤ 65535 := ha1
  have hra := row_at w #[.int .i64 code, .int .i64 (an : Int), .int .i64 count, .int .i64 to, .slice h.1 h.2.1 h.2.2, .slice k.1 k.2.1 k.2.2, u16v and_, u16v or_] 40 w.heap.size rfl
  have hb0 : Below w.heap.size w (w.alloc (.cells #[.int .i64 code, .int .i64 (an : Int), .int .i64 count, .int .i64 to, .slice h.1 h.2.1 h.2.2, .slice k.1 k.2.1 k.2.2, u16v and_, u16v or_] 40)) := (Below.refl _ _).alloc (zq _) _
  have hl1 := qh (hl.below hb0 (zq _))
  have HT := qh hts
  have HN := qh hn
  clear hl ha0 hts hn
  obtain ⟨V, hV⟩ : ∃ V, An.textsC ⟨code, (an : Int), count, to, words, bits, and_, or_⟩ l = V := ⟨_, rfl⟩
  have HF : Hid (V = if code = 43 then decide (0 < n) && decide ((an : Int) + n ≤ 256) && l.all (fun s => decide (s.size ≤ 245)) && decide (An.sumT 7 l ≤ 253) else decide (n = 0)) := qh (by rw [← hV, ← HN.out]; rfl)
  rw [hV, askV_eq]
  clear hV
  by_cases hc : code = 43
  · subst hc
    by_cases h0 : n = 0
    · subst h0
      have HV : Hid (V = false) := qh (by rw [HF.out]; simp)
      go_enter Tryz.func95, Tryz.ntmps95
      obtain ⟨r0, r1, -⟩ := row_eight hra
      go_wp2_with fail
      go_ret
      exact ⟨by rw [HV.out]; rfl, hb0⟩
    · have e0 : ((n : Int) == 0) = false := by rw [beq_eq_false_iff_ne]; omega
      by_cases h256 : (an : Int) + (n : Int) ≤ 256
      · have e1 : ¬ (an : Int) + (n : Int) > 256 := by omega
        have HV : Hid (V = (l.all (fun s => decide (s.size ≤ 245)) && decide (An.sumT 7 l ≤ 253))) := qh (by rw [HF.out, if_pos rfl, decide_eq_true (show 0 < n by omega), decide_eq_true h256]; rfl)
        clear HF
        go_enter Tryz.func95, Tryz.ntmps95
        obtain ⟨r0, r1, -⟩ := row_eight hra
        go_wp2_with fail
        go_loop [5, 27] (fun sv iv => ∃ j m : Nat, j ≤ n ∧ iv = .int .i64 j ∧ sv = .int .i64 m ∧ Hid (m = An.sumT 7 (l.take j)) ∧ Hid (∀ s ∈ l.take j, s.size ≤ 245) ∧ m ≤ 7 + 247 * j) (fun _ iv => n - (intOf iv).toNat)
        case atStart => exact ⟨0, 7, Nat.zero_le _, rfl, rfl, qh rfl, qh (by simp), by omega⟩
        case round =>
          obtain ⟨j, m, hj, rfl, rfl, HM, HA, hmb⟩ := hrel
          by_cases hlt : j < n
          · have i1 : (j : Int) < (n : Int) := by omega
            have hj1 : j < l.length := by rw [HN.out]; exact hlt
            obtain ⟨b1, o1, rfl, hc1⟩ := hl1.out j hj1
            have hsz := HT.out l[j] (List.getElem_mem hj1)
            have HD : Hid (An.sumT 7 (l.take (j + 1)) = m + (2 + (l[j]).size)) := qh (by rw [List.take_succ_eq_append_getElem hj1, An.sumT_snoc, ← HM.out])
            have HAL : Hid ((l[j]).size ≤ 245 → ∀ s ∈ l.take (j + 1), s.size ≤ 245) := qh (fun hle s hs => by
              rw [List.take_succ_eq_append_getElem hj1, List.mem_append, List.mem_singleton] at hs
              rcases hs with hs | rfl
              · exact HA.out s hs
              · exact hle)
            have HNO : Hid (¬ (l[j]).size ≤ 245 → V = false) := qh (fun hno => by
              rw [HV.out, Bool.and_eq_false_iff]
              left
              rw [← Bool.not_eq_true, List.all_eq_true]
              intro hall
              exact hno (by simpa using hall _ (List.getElem_mem hj1)))
            generalize l[j] = s at *
            by_cases h245 : s.size ≤ 245
            · have i2 : ¬ (s.size : Int) > 245 := by omega
              have HAL2 := qh (HAL.out h245)
              clear HNO HAL
              go_wp2_with fail
              go_round
              case rel => exact ⟨j + 1, m + (2 + s.size), by omega, by go_num, by go_num, qh HD.out.symm, HAL2, by omega⟩
              case measure => simp [intOf]; omega
            · have i2 : (s.size : Int) > 245 := by omega
              have HVV := qh (HNO.out h245)
              clear HNO HAL
              go_wp2_with fail
              go_ret
              exact ⟨by rw [HVV.out]; rfl, hb0⟩
          · obtain rfl : j = n := by omega
            have i1 : ¬ (j : Int) < (j : Int) := by omega
            have HTK : Hid (l.take j = l) := qh (by rw [← HN.out, List.take_length])
            rw [HTK.out] at HM HA
            have HVV : Hid (V = decide ((m : Int) ≤ 253)) := qh (by
              rw [HV.out, List.all_eq_true.2 (fun s hs => decide_eq_true (HA.out s hs)), Bool.true_and, ← HM.out]
              exact decide_eq_decide.2 (by omega))
            go_wp2_with fail
            go_ret
            exact ⟨by rw [HVV.out]; rfl, hb0⟩
      · have e1 : (an : Int) + (n : Int) > 256 := by omega
        have HV : Hid (V = false) := qh (by rw [HF.out, if_pos rfl, decide_eq_false h256]; simp)
        go_enter Tryz.func95, Tryz.ntmps95
        obtain ⟨r0, r1, -⟩ := row_eight hra
        go_wp2_with fail
        go_ret
        exact ⟨by rw [HV.out]; rfl, hb0⟩
  · have e0 : (code != 43) = true := by rw [bne_iff_ne]; exact hc
    have HV : Hid (V = ((n : Int) == 0)) := qh (by rw [HF.out, if_neg hc]; cases n <;> rfl)
    go_enter Tryz.func95, Tryz.ntmps95
    obtain ⟨r0, r1, -⟩ := row_eight hra
    go_wp2_with fail
    go_ret
    exact ⟨by rw [HV.out]; rfl, hb0⟩
end Go.Proofs.YtlgmjnjhdamknaaGreat
