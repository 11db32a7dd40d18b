
/-
  The landed answer: its reader's texts.
-/
import Derived.Test.YtlgmjnjhdamknaaGreatRe7
namespace Go.Proofs.YtlgmjnjhdamknaaGreat
open Go.RowKit

theorem kits : EK Tryz.prog 44 9 (.string ⟨#[]⟩) 16 := ⟨Tryz.underlying44, by kernel_rfl, rfl⟩
theorem ones : ∀ x : ByteArray, (strv x).oneCell' = true := fun _ => rfl
/-- What texts leaves. -/
def TextsPost (w : World) (q : Nat) (o : Option (List ByteArray × List UInt8)) (e : Ending) (w' : World) : Prop :=
  match o with
  | none => GavePost w q e w'
  | some (l, r) => ∃ A n c, e = .returned (.slice A n c) ∧ l.length = n ∧ n ≤ c ∧ c ≤ maxLen ∧ Lies strv w' A l ∧ RdAt w' q r ∧ But [q] w w'
theorem TextsPost.none {w : World} {q : Nat} {o : Option (List ByteArray × List UInt8)} {e : Ending} {w' : World} (ho : o = Option.none) (h : GavePost w q e w') : TextsPost w q o e w' := by
  subst ho; exact h
theorem TextsPost.some {w : World} {q : Nat} {o : Option (List ByteArray × List UInt8)} {l : List ByteArray} {r : List UInt8} {w' : World} {A : Option Addr} {n c : Nat} (ho : o = Option.some (l, r)) (h1 : l.length = n) (h2 : n ≤ c) (h3 : c ≤ maxLen) (h4 : Lies strv w' A l) (h5 : RdAt w' q r) (h6 : But [q] w w') : TextsPost w q o (.returned (.slice A n c)) w' := by
  subst ho; exact ⟨A, n, c, rfl, h1, h2, h3, h4, h5, h6⟩
theorem far_own {w : World} {B g n : Nat} {e : TypeId} {xs : List ByteArray} {A : Option Addr} {l : List UInt8} (h : w.ownsRow B e 1 (.slice (some ⟨g, 0, none⟩) n n) n (xs.map strv)) (hl : Lies u8v w A l) : ∀ b o s, A = some ⟨b, o, s⟩ → 0 < l.length → b ∉ [g] := by
  rcases h.2 with ⟨h', _⟩ | ⟨g', cap, cur, hv, _, hg, _, _, hcs, htake⟩
  · cases h'
  · simp only [Value.slice.injEq, Option.some.injEq, Addr.mk.injEq, and_true, true_and] at hv
    obtain ⟨rfl, rfl⟩ := hv
    refine far_row hg hl fun x i v hv => ?_
    have hi : cur.toList[i]? = some v := by rw [Array.getElem?_toList]; exact hv
    have hlt : i < n * 1 := by
      have := (Array.getElem?_eq_some_iff.1 hv).1
      omega
    have h2 : (cur.toList.take (n * 1))[i]? = some v := by rw [List.getElem?_take, if_pos hlt]; exact hi
    rw [htake, List.getElem?_map] at h2
    obtain ⟨y, _, rfl⟩ := Option.map_eq_some_iff.1 h2
    simp
theorem An.textsR_step {i k : Nat} {b r : List UInt8} {s : ByteArray} (h : An.textAt i b = some (s, r)) (hk : 0 < k) (pre : List ByteArray) : (An.textsR i k b).map (fun x => (pre ++ x.1, x.2)) = (An.textsR (i + 1) (k - 1) r).map (fun x => (pre ++ [s] ++ x.1, x.2)) := by
  obtain ⟨k, rfl⟩ : ∃ k', k = k' + 1 := ⟨k - 1, by omega⟩
  have e : An.textsR i (k + 1) b = (An.textsR (i + 1) k r).map fun x => (s :: x.1, x.2) := by
    simp only [An.textsR, h]
  rw [e, Nat.add_sub_cancel, Option.map_map]
  congr 1
  funext x
  simp
theorem An.textsR_stop {i k : Nat} {b : List UInt8} (h : An.textAt i b = Option.none) (hk : 0 < k) : An.textsR i k b = Option.none := by
  obtain ⟨k, rfl⟩ : ∃ k', k = k' + 1 := ⟨k - 1, by omega⟩
  simp only [An.textsR, h]
theorem set_take {α : Type} (cs : List α) (j : Nat) (x : α) (h : j < cs.length) : (cs.set j x).take (j + 1) = cs.take j ++ [x] := by
  rw [List.take_succ_eq_append_getElem (by rw [List.length_set]; exact h), List.getElem_set_self, List.take_set_of_le (Nat.le_refl _)]
theorem str_of (l : List UInt8) : (⟨l.toArray⟩ : ByteArray).size = l.length := by simp [ByteArray.size]

set_option maxRecDepth 100000 in
set_option maxHeartbeats 2000000 in
theorem rtexts7_any (a : Ask) (h k : Hd) (q an : Nat) (b : List UInt8) (han : a.addr = (an : Int)) (ha1 : an ≤ 65535) (hc0 : 0 ≤ a.count) (hc1 : a.count ≤ 255) (w : World) (hr : RdAt w q b) :
    Calls Tryz.prog 187 #[.pointer (some ⟨q, 0, none⟩), askV a h k] w (TextsPost w q (An.textsAll a b)) := by
  obtain ⟨code, addr, count, to, words, bits, and_, or_⟩ := a
  obtain rfl : addr = (an : Int) := han
  obtain ⟨i0, hi0, hz0, hz1, hz2⟩ := info_parts kits.hi
  have hra := row_at w #[.int .i64 code, .int .i64 (an : Int), .int .i64 count, .int .i64 to, .slice h.1 h.2.1 h.2.2, .slice k.1 k.2.1 k.2.2, u16v and_, u16v or_] 40 w.heap.size rfl
  have hb0 : Below w.heap.size w (w.alloc (.cells #[.int .i64 code, .int .i64 (an : Int), .int .i64 count, .int .i64 to, .slice h.1 h.2.1 h.2.2, .slice k.1 k.2.1 k.2.2, u16v and_, u16v or_] 40)) := (Below.refl _ _).alloc (Nat.le_refl _) _
  have hqw := hr.lt
  have HAH := Lib.hid (fun W => ahead7_any ⟨code, (an : Int), count, to, words, bits, and_, or_⟩ h k hc0 hc1 W)
  rw [askV_eq] at HAH
  rw [askV_eq]
  obtain ⟨P, hP⟩ : ∃ P, An.ahead ⟨code, (an : Int), count, to, words, bits, and_, or_⟩ = P := ⟨_, rfl⟩
  obtain ⟨O, hO⟩ : ∃ O, An.textsAll ⟨code, (an : Int), count, to, words, bits, and_, or_⟩ b = O := ⟨_, rfl⟩
  have HO : Hid (O = match An.justR P b with | none => none | some [] => none | some (n :: r) => An.textsR an n.toNat r) := Lib.hid (by rw [← hO, ← hP]; rfl)
  rw [hP] at HAH
  rw [hO]
  clear hO hP hc0 hc1
  have hr0 := hr.below hb0
  go_enter Tryz.func187, Tryz.ntmps187
  go_wp2_with fail
  refine (HAH.out _).mono ?_
  rintro e w1 ⟨A1, n1, c1, rfl, hn1, hown1, hb1⟩
  obtain ⟨-, -, -, hl1⟩ := own_at hown1
  have hr1 := hr0.below hb1
  have hbw1 := hb0.trans (hb1.mono hb0.size)
  have hra1 := row_later hra hb1
  cases hj : An.justR P b with
  | none =>
    have HJ := Lib.hid (just_no q b P A1 n1 c1 hn1 w1 hl1 hr1 hj)
    rw [hj] at HO
    clear hj hr hr0 hr1 hown1 hl1 hb1
    go_wp2_with fail
    refine HJ.out.mono ?_
    rintro e w2 ⟨he, hb2⟩
    obtain rfl := he
    have HE : Hid (GavePost w q (.panicked [{ v := .iface 28 (.int .i64 2), recovered := false }]) w2) := Lib.hid ⟨rfl, (But.of_below hbw1 (Nat.le_refl _) [q]).trans hb2⟩
    go_wp2_with fail
    exact ⟨rfl, TextsPost.none HO.out HE.out⟩
  | some b2 =>
    have HJ := Lib.hid (just_yes q b P b2 A1 n1 c1 hn1 w1 hl1 hr1 hj)
    rw [hj] at HO
    clear hj hr hr0 hr1 hown1 hl1 hb1
    go_wp2_with fail
    refine HJ.out.mono ?_
    rintro e w2 ⟨rfl, hr2, hb2⟩
    have hbw2 : But [q] w w2 := (But.of_below hbw1 (Nat.le_refl _) [q]).trans hb2
    have hra2 : w2.heap[w.heap.size]? = some _ := row_but hra1 hb2 (by simp; omega)
    have hlt2 : w.heap.size < w2.heap.size := row_lt hra2
    cases b2 with
    | nil =>
      have HNo := Lib.hid (number_no q w2 hr2)
      clear hr2
      go_wp2_with fail
      refine HNo.out.mono ?_
      rintro e w3 ⟨he, hb3⟩
      obtain rfl := he
      have HE : Hid (GavePost w q (.panicked [{ v := .iface 28 (.int .i64 2), recovered := false }]) w3) := Lib.hid ⟨rfl, hbw2.trans hb3⟩
      go_wp2_with fail
      exact ⟨rfl, TextsPost.none HO.out HE.out⟩
    | cons x b3 =>
      have HNo := Lib.hid (number_yes q x b3 w2 hr2)
      clear hr2
      have hO : O = An.textsR an x.toNat b3 := HO.out
      have hx := x.toNat_lt
      obtain ⟨n, hn⟩ : ∃ n, x.toNat = n := ⟨_, rfl⟩
      rw [hn] at hO hx
      have HON := Lib.hid hO
      have HXN := Lib.hid hn
      clear hO hn HO
      go_wp2_with fail
      refine HNo.out.mono ?_
      rintro e w3 ⟨rfl, hr3, hb3⟩
      rw [HXN.out]
      have hbw3 : But [q] w w3 := hbw2.trans hb3
      have hra3 := row_but hra2 hb3 (by simp; omega)
      have hlt3 : w.heap.size < w3.heap.size := row_lt hra3
      clear hra2 hra1 hra hb3 hb2 hbw2 hbw1 hb0 HNo HJ HAH
      go_wp2_with (at_make; go_must (refine wpList_make_full _ rfl _ _ 44 rfl w3.heap.size 9 i0 (.string ⟨#[]⟩) 1 kits.ht hi0 hz0 hz1 .i64 .i64 _ _ n rfl rfl (by omega) (by omega) (by rw [hz2]; omega) (by unfold maxLen; omega) (Nat.le_refl _) ?_); intro w4 hown4 hg4)
      have hb4 : Below w3.heap.size w3 w4 := (Below.refl _ _).grown hg4 (Nat.le_refl _) (by simp)
      have hr4 := hr3.below hb4
      have hra4 := row_later hra3 hb4
      have hbw4 : But [q] w w4 := hbw3.trans (But.of_below hb4 (Nat.le_refl _) [q])
      have hqg : q < w3.heap.size := by omega
      generalize w3.heap.size = g at *
      clear hb4 hg4 hr3 hra3 hbw3
      go_loopw [16] (fun iv wr => ∃ (j : Nat) (bj : List UInt8) (cs : List ByteArray), j ≤ n ∧ iv = .int .i64 j ∧ Hid (cs.length = n) ∧ Hid (O = (An.textsR (an + j) (n - j) bj).map (fun x => (cs.take j ++ x.1, x.2))) ∧ RdAt wr q bj ∧ wr.ownsRow g 9 1 (.slice (some ⟨g, 0, none⟩) n n) n (cs.map strv) ∧ Hid (wr.heap[w.heap.size]? = some (.cells #[.int .i64 code, .int .i64 (an : Int), .int .i64 count, .int .i64 to, .slice h.1 h.2.1 h.2.2, .slice k.1 k.2.1 k.2.2, u16v and_, u16v or_] 40 (0, 0))) ∧ But [q] w wr) (fun iv _ => n - (intOf iv).toNat)
      case atStart =>
        refine ⟨0, b3, List.replicate n ⟨#[]⟩, Nat.zero_le _, rfl, Lib.hid (by simp), Lib.hid (by rw [HON.out]; simp), hr4, ?_, Lib.hid hra4, hbw4⟩
        rw [List.map_replicate, ← toList_madeCells_one, Nat.mul_one] at *
        exact hown4
      case round =>
        clear hown4 hr4 hra4 hbw4 w4 HON
        obtain ⟨j, bj, cs, hj, rfl, HC, HOJ, hrj, hown, HRA, hbwr⟩ := hrel
        have hltr : w.heap.size < wr.heap.size := row_lt HRA.out
        by_cases hlt : j < n
        · have i1 : (j : Int) < (n : Int) := by omega
          cases ht : An.textAt (an + j) bj with
          | none =>
            have HON : Hid (O = none) := Lib.hid (by rw [HOJ.out, An.textsR_stop ht (by omega)]; rfl)
            have e3 : IntKind.i64.wrap ((an : Int) + (j : Int)) = ((an + j : Nat) : Int) := by rw [IntKind.wrap_i64]; omega
            have HRD : Hid (wr.drew.cell? ⟨w.heap.size, 1, none⟩ = some (.int .i64 (an : Int))) := Lib.hid (row_eight HRA.out).2.1
            have HGV : Hid (∀ V, But [q] wr V → TextsPost w q O (.panicked [{ v := .iface 28 (.int .i64 2), recovered := false }]) V) := Lib.hid (fun V hV => TextsPost.none HON.out ⟨rfl, hbwr.trans hV⟩)
            have HDW : Hid (But [q] wr wr.drew) := Lib.hid ((But.refl [q] wr).drewN 1)
            cases bj with
            | nil =>
              have HNo := Lib.hid (number_no q wr.drew hrj)
              clear hrj hown ht
              have r1 := HRD.out
              go_wp2_with fail
              go_region_with (first | (go_at_call 183; (with_reducible refine HNo.out.mono ?_); rintro e w5 ⟨he, hb5⟩; obtain rfl := he; refine (fun (_ : wpAny Tryz.prog .any #[] (fun _ _ _ => True) 0 #[] { tmps := #[], defers := [] } w5) => And.intro rfl (HGV.out _ (HDW.out.trans hb5))) ?_) | fail)
              all_goals exact trivial
            | cons p rj =>
              have HNo := Lib.hid (number_yes q p rj wr.drew hrj)
              have HRB : Hid (∀ V, But [q] wr.drew V → V.cell? ⟨w.heap.size, 1, none⟩ = some (.int .i64 (an : Int))) := Lib.hid (fun V hV => (row_eight (row_but (show wr.drew.heap[w.heap.size]? = _ from HRA.out) hV (by simp; omega))).2.1)
              have hpl := p.toNat_lt
              rw [An.textAt_cons] at ht
              obtain ⟨pn, hpn⟩ : ∃ pn, p.toNat = pn := ⟨_, rfl⟩
              have HPN := Lib.hid hpn
              rw [hpn] at hpl ht
              clear hrj hown hpn
              have r1 := HRD.out
              by_cases hp : pn = an + j
              · rw [if_pos hp] at ht
                have hct : An.countedR rj = none := by
                  cases hc : An.countedR rj with
                  | none => rfl
                  | some x => rw [hc] at ht; cases ht
                have HCo := Lib.hid (fun V hV => counted_no q rj V hV hct)
                have e5 : ((pn : Int) == (an : Int) + (j : Int)) = true := beq_iff_eq.2 (by omega)
                clear hp hct ht
                go_wp2_with fail
                go_region_with (first | (go_at_call 183; (with_reducible refine HNo.out.mono ?_); rintro e w5 ⟨rfl, hr5, hb5⟩; rw [HPN.out]; have r15 := HRB.out _ hb5) | (go_at_call 181; (with_reducible refine (need_yes _).mono ?_); rintro e w6 ⟨rfl, rfl⟩) | fail)
                all_goals (
                  go_wp2_with fail
                  refine (HCo.out _ hr5).mono ?_
                  rintro e w7 ⟨he, hb7⟩
                  obtain rfl := he
                  have HE := Lib.hid (HGV.out _ ((HDW.out.trans hb5).trans hb7))
                  go_wp2_with fail
                  exact And.intro rfl HE.out)
              · have e5 : ((pn : Int) == (an : Int) + (j : Int)) = false := by rw [beq_eq_false_iff_ne]; omega
                clear ht hp
                go_wp2_with fail
                go_region_with (first | (go_at_call 183; (with_reducible refine HNo.out.mono ?_); rintro e w5 ⟨rfl, hr5, hb5⟩; rw [HPN.out]; have r15 := HRB.out _ hb5) | (go_at_call 181; (with_reducible refine (need_no _).mono ?_); rintro e w6 ⟨he, rfl⟩; obtain rfl := he; refine (fun (_ : wpAny Tryz.prog .any #[] (fun _ _ _ => True) 0 #[] { tmps := #[], defers := [] } w6) => And.intro rfl (HGV.out _ (HDW.out.trans hb5))) ?_) | fail)
                all_goals exact trivial
          | some sr =>
            obtain ⟨s, r⟩ := sr
            have HSTEP : Hid (O = (An.textsR (an + (j + 1)) (n - (j + 1)) r).map (fun x => ((cs.set j s).take (j + 1) ++ x.1, x.2))) := Lib.hid (by
              rw [HOJ.out, An.textsR_step ht (by omega), set_take cs j s (by rw [HC.out]; exact hlt), show an + (j + 1) = an + j + 1 by omega, show n - (j + 1) = n - j - 1 by omega])
            have e3 : IntKind.i64.wrap ((an : Int) + (j : Int)) = ((an + j : Nat) : Int) := by rw [IntKind.wrap_i64]; omega
            have HRD : Hid (wr.drew.cell? ⟨w.heap.size, 1, none⟩ = some (.int .i64 (an : Int))) := Lib.hid (row_eight HRA.out).2.1
            have HDW : Hid (But [q] wr wr.drew) := Lib.hid ((But.refl [q] wr).drewN 1)
            cases bj with
            | nil => cases ht
            | cons p rj =>
              have HNo := Lib.hid (number_yes q p rj wr.drew hrj)
              have HRB : Hid (∀ V, But [q] wr.drew V → V.cell? ⟨w.heap.size, 1, none⟩ = some (.int .i64 (an : Int))) := Lib.hid (fun V hV => (row_eight (row_but (show wr.drew.heap[w.heap.size]? = _ from HRA.out) hV (by simp; omega))).2.1)
              have hpl := p.toNat_lt
              rw [An.textAt_cons] at ht
              obtain ⟨pn, hpn⟩ : ∃ pn, p.toNat = pn := ⟨_, rfl⟩
              have HPN := Lib.hid hpn
              rw [hpn] at hpl ht
              clear hrj hpn HOJ
              have r1 := HRD.out
              have hp : pn = an + j := by
                by_cases hp : pn = an + j
                · exact hp
                · rw [if_neg hp] at ht; cases ht
              rw [if_pos hp] at ht
              obtain ⟨⟨pl, r'⟩, hct, hsr⟩ := Option.map_eq_some_iff.1 ht
              simp only [Prod.mk.injEq] at hsr
              obtain ⟨hs, rfl⟩ := hsr
              have HCo := Lib.hid (fun V hV => counted_yes q rj pl r' V hV hct)
              have e5 : ((pn : Int) == (an : Int) + (j : Int)) = true := beq_iff_eq.2 (by omega)
              have hp255 := (An.countedR_some hct).1
              have HOWN : Hid (∀ V, But [q] wr V → V.ownsRow g 9 1 (.slice (some ⟨g, 0, none⟩) n n) n (cs.map strv)) := Lib.hid (fun V hV => own_but hown hV (by intro g' e; simp [Value.ownBlock] at e; subst e; simp; omega))
              have HRAV : Hid (∀ V, But [q] wr V → V.heap[w.heap.size]? = some (.cells #[.int .i64 code, .int .i64 (an : Int), .int .i64 count, .int .i64 to, .slice h.1 h.2.1 h.2.2, .slice k.1 k.2.1 k.2.2, u16v and_, u16v or_] 40 (0, 0))) := Lib.hid (fun V hV => row_but HRA.out hV (by simp; omega))
              have HS := Lib.hid hs
              clear hp hct ht hown hs
              go_wp2_with fail
              go_region_with (first | (go_at_call 183; (with_reducible refine HNo.out.mono ?_); rintro e w5 ⟨rfl, hr5, hb5⟩; rw [HPN.out]; have r15 := HRB.out _ hb5) | (go_at_call 181; (with_reducible refine (need_yes _).mono ?_); rintro e w6 ⟨rfl, rfl⟩) | fail)
              all_goals (
                go_wp2_with fail
                refine (HCo.out _ hr5).mono ?_
                rintro e w7 ⟨A7, c7, rfl, f1, f2, f3, f4, f5⟩
                have hb7 := (HDW.out.trans hb5).trans f5
                have hown7 := HOWN.out _ hb7
                have hci := hown7.cellAt j (by omega)
                have hfi := hown7.frozenAt j
                rw [List.getElem?_map, List.getElem?_eq_getElem (by have := HC.out; omega), Option.map_some] at hci
                have hcv := conv_lies w7 A7 pl.length c7 pl rfl f3
                rw [HS.out] at hcv
                have hgl := (hown7.lt g rfl).2
                have hst := Lib.hid ((hown7.stored j (strv s)).1)
                rw [show (List.map strv cs).set j (strv s) = (cs.set j s).map strv by rw [List.map_set]] at hst
                have HFR := Lib.hid (fun A hA => far_own (A := A) (l := r') hown7 hA)
                have HF4 := Lib.hid f4
                clear f1 f2 f3 f4
                generalize pl.length = m7 at *
                go_wp2_with fail
                have hbg : But [g] w7 (w7.setCell ⟨g, j, none⟩ (strv s)) := (But.refl [g] w7).setCell (p := ⟨g, j, none⟩) (.inl (by simp)) _
                exact ⟨⟨j + 1, r', cs.set j s, by omega, by go_num, Lib.hid (by rw [List.length_set]; exact HC.out), HSTEP, HF4.out.but hbg (by simp; omega) (fun A hA => HFR.out A hA), hst.out, Lib.hid (row_but (HRAV.out _ hb7) hbg (by simp; omega)), (hbwr.trans hb7).setCell (p := ⟨g, j, none⟩) (.inr (by simp; omega)) _⟩, by simp [intOf]; omega⟩)
        · obtain rfl : j = n := by omega
          have i1 : ¬ (j : Int) < (j : Int) := by omega
          have HON : Hid (O = some (cs, bj)) := Lib.hid (by
            rw [HOJ.out, Nat.sub_self, show cs.take j = cs by rw [← HC.out, List.take_length]]
            show some (cs ++ [], bj) = _
            rw [List.append_nil])
          obtain ⟨g1, g2, g3, g4⟩ := own_at hown
          have HE : Hid (TextsPost w q O (.returned (.slice (some ⟨g, 0, none⟩) j j)) wr) := Lib.hid (TextsPost.some HON.out HC.out (Nat.le_refl _) g2 g4 hrj hbwr)
          clear hown hrj g1 g2 g3 g4
          go_wp2_with fail
          go_ret
          exact HE.out
#print axioms rtexts7_any
end Go.Proofs.YtlgmjnjhdamknaaGreat
