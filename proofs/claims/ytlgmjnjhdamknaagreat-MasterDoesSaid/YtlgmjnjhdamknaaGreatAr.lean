
/- A part of the proof of the law MasterDoes. -/
import Derived.Test.YtlgmjnjhdamknaaGreatMem
import Derived.Test.YtlgmjnjhdamknaaGreatRm
namespace Go.Proofs.YtlgmjnjhdamknaaGreat
open Go.RowKit

namespace An
theorem longF_len : ∀ (l : List ByteArray) (n : Nat), longF n l < 1000 → longF n l = n + 2 * l.length + (l.map (·.size)).sum
  | [], n, _ => by simp [longF]
  | s :: r, n, h => by
    by_cases hn : n < 1000
    · rw [longF_cons _ _ _ hn] at h ⊢
      rw [longF_len r _ h]
      simp
      omega
    · rw [longF_stop _ _ hn] at h
      omega
theorem long_len (l : List ByteArray) (h : long l < 1000) : 7 + 2 * l.length ≤ long l := by
  have := longF_len l 7 h
  unfold long
  omega
end An
theorem short_stop {l : List ByteArray} {j : Nat} (hj : j < l.length) (h3 : j < 300) (h : 245 < (l[j]).size) : An.shortTexts l = false := by
  unfold An.shortTexts
  rw [List.all_eq_false]
  refine ⟨l[j], ?_, by simp; omega⟩
  have hl : j < (l.take 300).length := by rw [List.length_take]; omega
  have : (l.take 300)[j] = l[j] := by rw [List.getElem_take]
  rw [← this]
  exact List.getElem_mem hl
theorem short_step {l : List ByteArray} {j : Nat} (hj : j < l.length) (h : (l.take j).all (fun s => decide (s.size ≤ 245)) = true) (hs : (l[j]).size ≤ 245) : (l.take (j + 1)).all (fun s => decide (s.size ≤ 245)) = true := by
  rw [List.take_succ_eq_append_getElem hj, List.all_append, h]
  simp [hs]
theorem short_end {l : List ByteArray} {j : Nat} (h : (l.take j).all (fun s => decide (s.size ≤ 245)) = true) (hj : j = l.length ∨ j = 300) : An.shortTexts l = true := by
  unfold An.shortTexts
  rcases hj with rfl | rfl
  · rw [List.take_length] at h
    rw [List.all_eq_true] at h ⊢
    intro s hs
    exact h s (List.mem_of_mem_take hs)
  · exact h

set_option maxRecDepth 100000 in
set_option maxHeartbeats 8000000 in
theorem rright7_any (a : Ask) (h0 k0 : Hd) (x : Ans) (h k t : Hd) (w : World) (ha : AskIn w a h0 k0) (hx : AnsIn w x h k t) :
    Calls Tryz.prog 61 #[askV a h0 k0, ansV x h k t] w fun e w' => e = .returned (.bool (An.right a x)) ∧ Below w.heap.size w w' := by
  obtain ⟨exc, bits, words, texts⟩ := x
  obtain ⟨hA, hn, hc⟩ := h
  obtain ⟨kA, kn, kc⟩ := k
  obtain ⟨tA, tn, tc⟩ := t
  have hb2 : Below w.heap.size w ((w.alloc (.cells #[.int .i64 a.code, .int .i64 a.addr, .int .i64 a.count, .int .i64 a.to, .slice h0.1 h0.2.1 h0.2.2, .slice k0.1 k0.2.1 k0.2.2, u16v a.and_, u16v a.or_] 58)).alloc (.cells #[.int .i64 exc, .slice hA hn hc, .slice kA kn kc, .slice tA tn tc] 51)) := ((Below.refl _ _).alloc (zq _) _).alloc (by simp) _
  have ha2 := ha.below hb2
  have HTL := qh (hx.tl.below hb2 (zq _))
  have HTN : Hid (texts.length = tn) := qh hx.tn
  have HTS : Hid (∀ s ∈ texts, s.size ≤ 140737488355328) := qh hx.ts
  have m1 : hn ≤ maxLen := Nat.le_trans hx.hc hx.hm
  have m2 : kn ≤ maxLen := Nat.le_trans hx.kc hx.km
  have m3 : tn ≤ maxLen := Nat.le_trans hx.tc hx.tm
  have hrx := row_later (row_at w #[.int .i64 a.code, .int .i64 a.addr, .int .i64 a.count, .int .i64 a.to, .slice h0.1 h0.2.1 h0.2.2, .slice k0.1 k0.2.1 k0.2.2, u16v a.and_, u16v a.or_] 58 w.heap.size rfl) ((Below.refl _ _).alloc (zq _) (.cells #[.int .i64 exc, .slice hA hn hc, .slice kA kn kc, .slice tA tn tc] 51))
  have hry := row_at (w.alloc (.cells #[.int .i64 a.code, .int .i64 a.addr, .int .i64 a.count, .int .i64 a.to, .slice h0.1 h0.2.1 h0.2.2, .slice k0.1 k0.2.1 k0.2.2, u16v a.and_, u16v a.or_] 58)) #[.int .i64 exc, .slice hA hn hc, .slice kA kn kc, .slice tA tn tc] 51 (w.heap.size + 1) (by simp)
  obtain ⟨V, hV⟩ : ∃ V, An.right a ⟨exc, bits, words, texts⟩ = V := ⟨_, rfl⟩
  have HF : Hid (V = (Ak.right a && decide (0 ≤ exc) && decide (exc ≤ 255) && decide ((hn : Int) = An.wantBits a ⟨exc, bits, words, texts⟩) && decide ((kn : Int) = An.wantWords a ⟨exc, bits, words, texts⟩) && (decide (0 < tn) == An.wantTexts a ⟨exc, bits, words, texts⟩) && An.shortTexts texts && (!An.wantTexts a ⟨exc, bits, words, texts⟩ || decide (An.long texts ≤ 253) && decide (a.addr + tn ≤ 256)))) := qh (by
    have e1 : bits.length = hn := hx.hn
    have e2 : words.length = kn := hx.kn
    have e3 : texts.length = tn := hx.tn
    rw [← hV, ← e1, ← e2, ← e3]
    rfl)
  rw [hV]
  unfold maxLen at m1 m2 m3
  clear hV hx ha
  rw [(show askV a h0 k0 = Value.agg #[.int .i64 a.code, .int .i64 a.addr, .int .i64 a.count, .int .i64 a.to, .slice h0.1 h0.2.1 h0.2.2, .slice k0.1 k0.2.1 k0.2.2, u16v a.and_, u16v a.or_] from rfl), (show ansV ⟨exc, bits, words, texts⟩ (hA, hn, hc) (kA, kn, kc) (tA, tn, tc) = Value.agg #[.int .i64 exc, .slice hA hn hc, .slice kA kn kc, .slice tA tn tc] from rfl)]
  go_enter Tryz.func61, Tryz.ntmps61
  go_wp2_with fail
  refine (rright_any a h0 k0 _ ha2).mono ?_
  rintro e w2 ⟨rfl, hb⟩
  have hbw := hb2.trans (hb.mono hb2.size)
  have hrx2 := row_later hrx hb
  have hry2 := row_later hry hb
  have HTL2 := qh (HTL.out.below hb (zq _))
  clear hb2 ha2 hrx hry hb HTL
  obtain ⟨a0, a1, a2, a3, a4, a5, a6, a7⟩ := row_eight hrx2
  obtain ⟨y0, y1, y2, y3⟩ := row_quad hry2
  have hlt2 := row_lt hry2
  have hlt1 := row_lt hrx2
  clear hrx2 hry2
  cases hr : Ak.right a with
  | false =>
    have HV : Hid (V = false) := qh (by rw [HF.out, hr]; simp)
    go_wp2_with fail
    go_ret
    exact ⟨by rw [HV.out]; rfl, hbw⟩
  | true =>
    have hfm : Ak.formed a = true := by
      unfold Ak.right at hr
      rw [Bool.and_eq_true] at hr
      exact hr.1
    have hbd := Ak.bounds hfm
    have hcd := hbd.c
    have hA0 := hbd.a0
    have hA1 := hbd.a1
    have hC0 := hbd.n0
    have hC1 := hbd.n1
    simp only [Ak.codes, List.mem_cons, List.not_mem_nil, or_false] at hcd
    obtain ⟨code, hcode⟩ : ∃ z, a.code = z := ⟨_, rfl⟩
    obtain ⟨cnt, hcnt⟩ : ∃ z, a.count = z := ⟨_, rfl⟩
    obtain ⟨adr, hadr⟩ : ∃ z, a.addr = z := ⟨_, rfl⟩
    have HC := qh (And.intro hcode (And.intro hcnt hadr))
    have HR := qh hr
    rw [hcode] at hcd a0
    rw [hcnt] at hC0 hC1 a2
    rw [hadr] at hA0 hA1 a1
    clear hr hfm hbd hcode hcnt hadr
    by_cases hx0 : exc < 0
    · have HV : Hid (V = false) := qh (by rw [HF.out, decide_eq_false (by omega : ¬ 0 ≤ exc)]; simp)
      go_wp2_with fail
      go_ret
      exact ⟨by rw [HV.out]; rfl, hbw⟩
    · by_cases hx1 : 255 < exc
      · have HV : Hid (V = false) := qh (by rw [HF.out, decide_eq_false (by omega : ¬ exc ≤ 255)]; simp)
        go_wp2_with fail
        go_ret
        exact ⟨by rw [HV.out]; rfl, hbw⟩
      · have hx1' : exc ≤ 255 := by omega
        rw [HR.out, decide_eq_true (by omega : 0 ≤ exc), decide_eq_true hx1'] at HF
        by_cases hx2 : exc = 0
        · subst hx2
          by_cases c2 : code ≤ 2
          · have d2 : code ≤ 2 := c2
            have d3 : (code == 3) = false := by rw [beq_eq_false_iff_ne]; omega
            have d4 : (code == 4) = false := by rw [beq_eq_false_iff_ne]; omega
            have d23 : (code == 23) = false := by rw [beq_eq_false_iff_ne]; omega
            have d43 : (code == 43) = false := by rw [beq_eq_false_iff_ne]; omega
            have hwb : An.wantBits a ⟨0, bits, words, texts⟩ = cnt := by unfold An.wantBits; rw [HC.out.1, HC.out.2.1]; first | exact if_pos ⟨rfl, by omega⟩ | (rw [if_neg (by simp; omega)])
            have hww : An.wantWords a ⟨0, bits, words, texts⟩ = 0 := by unfold An.wantWords; rw [HC.out.1, HC.out.2.1]; first | exact if_pos ⟨rfl, by omega⟩ | (rw [if_neg (by simp; omega)])
            have hwt : An.wantTexts a ⟨0, bits, words, texts⟩ = false := by unfold An.wantTexts; rw [HC.out.1]; simp; try omega
            rw [hwb, hww, hwt] at HF
            clear hwb hww hwt
            by_cases p1 : (hn : Int) = cnt
            · by_cases p2 : (kn : Int) = 0
              · have q1 : ((hn : Int) != cnt) = false := by rw [bne_eq_false_iff_eq]; exact p1
                have q2 : ((kn : Int) != 0) = false := by rw [bne_eq_false_iff_eq]; exact p2
                rw [decide_eq_true p1, decide_eq_true p2] at HF
                clear p1 p2
                by_cases p3 : 0 < tn
                · have p3' : (0 : Int) < (tn : Int) := by omega
                  rw [decide_eq_true p3] at HF
                  have HV : Hid (V = false) := qh (by rw [HF.out]; simp)
                  go_wp2_with fail
                  go_ret
                  exact ⟨by rw [HV.out]; rfl, hbw⟩
                · have p3' : ¬ (0 : Int) < (tn : Int) := by omega
                  rw [decide_eq_false p3] at HF
                  have HV : Hid (V = true) := qh (by rw [HF.out, show An.shortTexts texts = true from short_end (j := 0) (by simp) (.inl (by rw [HTN.out]; omega))]; simp)
                  obtain rfl : tn = 0 := by omega
                  go_wp2_with fail
                  go_loop [8] (fun iv => iv = .int .i64 0) (fun iv => 1 - (intOf iv).toNat)
                  case atStart => rfl
                  case round =>
                    obtain rfl := hrel
                    go_wp2_with fail
                    go_ret
                    exact ⟨by rw [HV.out]; rfl, hbw⟩
              · have q1 : ((hn : Int) != cnt) = false := by rw [bne_eq_false_iff_eq]; exact p1
                have q2 : ((kn : Int) != 0) = true := by rw [bne_iff_ne]; exact p2
                have HV : Hid (V = false) := qh (by rw [HF.out, decide_eq_false p2]; simp)
                go_wp2_with fail
                go_ret
                exact ⟨by rw [HV.out]; rfl, hbw⟩
            · have q1 : ((hn : Int) != cnt) = true := by rw [bne_iff_ne]; exact p1
              have HV : Hid (V = false) := qh (by rw [HF.out, decide_eq_false p1]; simp)
              go_wp2_with fail
              go_ret
              exact ⟨by rw [HV.out]; rfl, hbw⟩
          · have d2 : ¬ code ≤ 2 := c2
            by_cases c3 : code = 3
            · have d3 : (code == 3) = true := by rw [beq_iff_eq]; exact c3
              have d43 : (code == 43) = false := by rw [beq_eq_false_iff_ne]; omega
              have hwb : An.wantBits a ⟨0, bits, words, texts⟩ = 0 := by unfold An.wantBits; rw [HC.out.1, HC.out.2.1]; first | exact if_pos ⟨rfl, by omega⟩ | (rw [if_neg (by simp; omega)])
              have hww : An.wantWords a ⟨0, bits, words, texts⟩ = cnt := by unfold An.wantWords; rw [HC.out.1, HC.out.2.1]; first | exact if_pos ⟨rfl, by omega⟩ | (rw [if_neg (by simp; omega)])
              have hwt : An.wantTexts a ⟨0, bits, words, texts⟩ = false := by unfold An.wantTexts; rw [HC.out.1]; simp; try omega
              rw [hwb, hww, hwt] at HF
              clear hwb hww hwt
              by_cases p1 : (hn : Int) = 0
              · by_cases p2 : (kn : Int) = cnt
                · have q1 : ((hn : Int) != 0) = false := by rw [bne_eq_false_iff_eq]; exact p1
                  have q2 : ((kn : Int) != cnt) = false := by rw [bne_eq_false_iff_eq]; exact p2
                  rw [decide_eq_true p1, decide_eq_true p2] at HF
                  clear p1 p2
                  by_cases p3 : 0 < tn
                  · have p3' : (0 : Int) < (tn : Int) := by omega
                    rw [decide_eq_true p3] at HF
                    have HV : Hid (V = false) := qh (by rw [HF.out]; simp)
                    go_wp2_with fail
                    go_ret
                    exact ⟨by rw [HV.out]; rfl, hbw⟩
                  · have p3' : ¬ (0 : Int) < (tn : Int) := by omega
                    rw [decide_eq_false p3] at HF
                    have HV : Hid (V = true) := qh (by rw [HF.out, show An.shortTexts texts = true from short_end (j := 0) (by simp) (.inl (by rw [HTN.out]; omega))]; simp)
                    obtain rfl : tn = 0 := by omega
                    go_wp2_with fail
                    go_loop [8] (fun iv => iv = .int .i64 0) (fun iv => 1 - (intOf iv).toNat)
                    case atStart => rfl
                    case round =>
                      obtain rfl := hrel
                      go_wp2_with fail
                      go_ret
                      exact ⟨by rw [HV.out]; rfl, hbw⟩
                · have q1 : ((hn : Int) != 0) = false := by rw [bne_eq_false_iff_eq]; exact p1
                  have q2 : ((kn : Int) != cnt) = true := by rw [bne_iff_ne]; exact p2
                  have HV : Hid (V = false) := qh (by rw [HF.out, decide_eq_false p2]; simp)
                  go_wp2_with fail
                  go_ret
                  exact ⟨by rw [HV.out]; rfl, hbw⟩
              · have q1 : ((hn : Int) != 0) = true := by rw [bne_iff_ne]; exact p1
                have HV : Hid (V = false) := qh (by rw [HF.out, decide_eq_false p1]; simp)
                go_wp2_with fail
                go_ret
                exact ⟨by rw [HV.out]; rfl, hbw⟩
            · have d3 : (code == 3) = false := by rw [beq_eq_false_iff_ne]; exact c3
              by_cases c4 : code = 4
              · have d4 : (code == 4) = true := by rw [beq_iff_eq]; exact c4
                have d3 : (code == 3) = false := by rw [beq_eq_false_iff_ne]; omega
                have d43 : (code == 43) = false := by rw [beq_eq_false_iff_ne]; omega
                have hwb : An.wantBits a ⟨0, bits, words, texts⟩ = 0 := by unfold An.wantBits; rw [HC.out.1, HC.out.2.1]; first | exact if_pos ⟨rfl, by omega⟩ | (rw [if_neg (by simp; omega)])
                have hww : An.wantWords a ⟨0, bits, words, texts⟩ = cnt := by unfold An.wantWords; rw [HC.out.1, HC.out.2.1]; first | exact if_pos ⟨rfl, by omega⟩ | (rw [if_neg (by simp; omega)])
                have hwt : An.wantTexts a ⟨0, bits, words, texts⟩ = false := by unfold An.wantTexts; rw [HC.out.1]; simp; try omega
                rw [hwb, hww, hwt] at HF
                clear hwb hww hwt
                by_cases p1 : (hn : Int) = 0
                · by_cases p2 : (kn : Int) = cnt
                  · have q1 : ((hn : Int) != 0) = false := by rw [bne_eq_false_iff_eq]; exact p1
                    have q2 : ((kn : Int) != cnt) = false := by rw [bne_eq_false_iff_eq]; exact p2
                    rw [decide_eq_true p1, decide_eq_true p2] at HF
                    clear p1 p2
                    by_cases p3 : 0 < tn
                    · have p3' : (0 : Int) < (tn : Int) := by omega
                      rw [decide_eq_true p3] at HF
                      have HV : Hid (V = false) := qh (by rw [HF.out]; simp)
                      go_wp2_with fail
                      go_ret
                      exact ⟨by rw [HV.out]; rfl, hbw⟩
                    · have p3' : ¬ (0 : Int) < (tn : Int) := by omega
                      rw [decide_eq_false p3] at HF
                      have HV : Hid (V = true) := qh (by rw [HF.out, show An.shortTexts texts = true from short_end (j := 0) (by simp) (.inl (by rw [HTN.out]; omega))]; simp)
                      obtain rfl : tn = 0 := by omega
                      go_wp2_with fail
                      go_loop [8] (fun iv => iv = .int .i64 0) (fun iv => 1 - (intOf iv).toNat)
                      case atStart => rfl
                      case round =>
                        obtain rfl := hrel
                        go_wp2_with fail
                        go_ret
                        exact ⟨by rw [HV.out]; rfl, hbw⟩
                  · have q1 : ((hn : Int) != 0) = false := by rw [bne_eq_false_iff_eq]; exact p1
                    have q2 : ((kn : Int) != cnt) = true := by rw [bne_iff_ne]; exact p2
                    have HV : Hid (V = false) := qh (by rw [HF.out, decide_eq_false p2]; simp)
                    go_wp2_with fail
                    go_ret
                    exact ⟨by rw [HV.out]; rfl, hbw⟩
                · have q1 : ((hn : Int) != 0) = true := by rw [bne_iff_ne]; exact p1
                  have HV : Hid (V = false) := qh (by rw [HF.out, decide_eq_false p1]; simp)
                  go_wp2_with fail
                  go_ret
                  exact ⟨by rw [HV.out]; rfl, hbw⟩
              · have d4 : (code == 4) = false := by rw [beq_eq_false_iff_ne]; exact c4
                by_cases c23 : code = 23
                · have d23 : (code == 23) = true := by rw [beq_iff_eq]; exact c23
                  have d3 : (code == 3) = false := by rw [beq_eq_false_iff_ne]; omega
                  have d4 : (code == 4) = false := by rw [beq_eq_false_iff_ne]; omega
                  have d43 : (code == 43) = false := by rw [beq_eq_false_iff_ne]; omega
                  have hwb : An.wantBits a ⟨0, bits, words, texts⟩ = 0 := by unfold An.wantBits; rw [HC.out.1, HC.out.2.1]; first | exact if_pos ⟨rfl, by omega⟩ | (rw [if_neg (by simp; omega)])
                  have hww : An.wantWords a ⟨0, bits, words, texts⟩ = cnt := by unfold An.wantWords; rw [HC.out.1, HC.out.2.1]; first | exact if_pos ⟨rfl, by omega⟩ | (rw [if_neg (by simp; omega)])
                  have hwt : An.wantTexts a ⟨0, bits, words, texts⟩ = false := by unfold An.wantTexts; rw [HC.out.1]; simp; try omega
                  rw [hwb, hww, hwt] at HF
                  clear hwb hww hwt
                  by_cases p1 : (hn : Int) = 0
                  · by_cases p2 : (kn : Int) = cnt
                    · have q1 : ((hn : Int) != 0) = false := by rw [bne_eq_false_iff_eq]; exact p1
                      have q2 : ((kn : Int) != cnt) = false := by rw [bne_eq_false_iff_eq]; exact p2
                      rw [decide_eq_true p1, decide_eq_true p2] at HF
                      clear p1 p2
                      by_cases p3 : 0 < tn
                      · have p3' : (0 : Int) < (tn : Int) := by omega
                        rw [decide_eq_true p3] at HF
                        have HV : Hid (V = false) := qh (by rw [HF.out]; simp)
                        go_wp2_with fail
                        go_ret
                        exact ⟨by rw [HV.out]; rfl, hbw⟩
                      · have p3' : ¬ (0 : Int) < (tn : Int) := by omega
                        rw [decide_eq_false p3] at HF
                        have HV : Hid (V = true) := qh (by rw [HF.out, show An.shortTexts texts = true from short_end (j := 0) (by simp) (.inl (by rw [HTN.out]; omega))]; simp)
                        obtain rfl : tn = 0 := by omega
                        go_wp2_with fail
                        go_loop [8] (fun iv => iv = .int .i64 0) (fun iv => 1 - (intOf iv).toNat)
                        case atStart => rfl
                        case round =>
                          obtain rfl := hrel
                          go_wp2_with fail
                          go_ret
                          exact ⟨by rw [HV.out]; rfl, hbw⟩
                    · have q1 : ((hn : Int) != 0) = false := by rw [bne_eq_false_iff_eq]; exact p1
                      have q2 : ((kn : Int) != cnt) = true := by rw [bne_iff_ne]; exact p2
                      have HV : Hid (V = false) := qh (by rw [HF.out, decide_eq_false p2]; simp)
                      go_wp2_with fail
                      go_ret
                      exact ⟨by rw [HV.out]; rfl, hbw⟩
                  · have q1 : ((hn : Int) != 0) = true := by rw [bne_iff_ne]; exact p1
                    have HV : Hid (V = false) := qh (by rw [HF.out, decide_eq_false p1]; simp)
                    go_wp2_with fail
                    go_ret
                    exact ⟨by rw [HV.out]; rfl, hbw⟩
                · have d23 : (code == 23) = false := by rw [beq_eq_false_iff_ne]; exact c23
                  by_cases c43 : code = 43
                  · have d43 : (code == 43) = true := by rw [beq_iff_eq]; exact c43
                    have hwb : An.wantBits a ⟨0, bits, words, texts⟩ = 0 := by unfold An.wantBits; rw [HC.out.1, HC.out.2.1]; first | exact if_pos ⟨rfl, by omega⟩ | (rw [if_neg (by simp; omega)])
                    have hww : An.wantWords a ⟨0, bits, words, texts⟩ = 0 := by unfold An.wantWords; rw [HC.out.1, HC.out.2.1]; first | exact if_pos ⟨rfl, by omega⟩ | (rw [if_neg (by simp; omega)])
                    have hwt : An.wantTexts a ⟨0, bits, words, texts⟩ = true := by unfold An.wantTexts; rw [HC.out.1]; simp; try omega
                    rw [hwb, hww, hwt] at HF
                    clear hwb hww hwt
                    by_cases p1 : (hn : Int) = 0
                    · by_cases p2 : (kn : Int) = 0
                      · have q1 : ((hn : Int) != 0) = false := by rw [bne_eq_false_iff_eq]; exact p1
                        have q2 : ((kn : Int) != 0) = false := by rw [bne_eq_false_iff_eq]; exact p2
                        rw [decide_eq_true p1, decide_eq_true p2] at HF
                        clear p1 p2
                        by_cases p3 : 0 < tn
                        · have p3' : (0 : Int) < (tn : Int) := by omega
                          rw [decide_eq_true p3] at HF
                          go_wp2_with fail
                          go_loop [8] (fun iv => ∃ j : Nat, j ≤ tn ∧ j ≤ 300 ∧ iv = .int .i64 j ∧ (texts.take j).all (fun s => decide (s.size ≤ 245)) = true) (fun iv => tn - (intOf iv).toNat)
                          case atStart => exact ⟨0, Nat.zero_le _, Nat.zero_le _, rfl, by simp⟩
                          case round =>
                            obtain ⟨j, hj, hj3, rfl, hsh⟩ := hrel
                            have HS := qh hsh
                            clear hsh
                            by_cases hlt : j < tn
                            · have i1 : (j : Int) < (tn : Int) := by omega
                              by_cases h3 : j < 300
                              · have i2 : (j : Int) < 300 := by omega
                                have hl1 : j < texts.length := by rw [HTN.out]; exact hlt
                                obtain ⟨b1, o1, hA1', hc1⟩ := HTL2.out j hl1
                                subst hA1'
                                have hsz := HTS.out texts[j] (List.getElem_mem hl1)
                                have HST : Hid ((texts[j]).size ≤ 245 → (texts.take (j + 1)).all (fun s => decide (s.size ≤ 245)) = true) := qh (short_step hl1 HS.out)
                                have HSF : Hid (245 < (texts[j]).size → An.shortTexts texts = false) := qh (short_stop hl1 h3)
                                generalize texts[j] = sj at *
                                by_cases h245 : 245 < sj.size
                                · have i3 : (245 : Int) < (sj.size : Int) := by omega
                                  have HV : Hid (V = false) := qh (by rw [HF.out, HSF.out h245]; simp)
                                  go_wp2_with fail
                                  go_ret
                                  exact ⟨by rw [HV.out]; rfl, hbw⟩
                                · have i3 : ¬ (245 : Int) < (sj.size : Int) := by omega
                                  go_wp2_with fail
                                  go_round
                                  case rel => exact ⟨j + 1, by omega, by omega, by go_num, HST.out (by omega)⟩
                                  case measure => simp [intOf]; omega
                              · have i2 : ¬ (j : Int) < 300 := by omega
                                have hse := short_end HS.out (.inr (by omega))
                                rw [hse] at HF
                                clear hse HS
                                go_wp2_with fail
                                refine (rlong_any tA tn tc texts HTN.out (by unfold maxLen; omega) HTS.out _ HTL2.out).mono ?_
                                rintro e w3 ⟨rfl, rfl⟩
                                have hll := An.long_len texts
                                obtain ⟨L, hL⟩ : ∃ L, An.long texts = L := ⟨_, rfl⟩
                                rw [hL] at HF hll ⊢
                                rw [HTN.out] at hll
                                clear hL
                                by_cases h253 : L ≤ 253
                                · exfalso
                                  have := hll (by omega)
                                  omega
                                · have j1 : ¬ (L : Int) ≤ 253 := by omega
                                  have HV : Hid (V = false) := qh (by rw [HF.out, decide_eq_false h253]; simp)
                                  go_wp2_with fail
                                  go_ret
                                  exact ⟨by rw [HV.out]; (first | rfl | (simp; omega)), hbw⟩
                            · have i1 : ¬ (j : Int) < (tn : Int) := by omega
                              have hse := short_end HS.out (.inl (by rw [HTN.out]; omega))
                              rw [hse] at HF
                              clear hse HS
                              go_wp2_with fail
                              refine (rlong_any tA tn tc texts HTN.out (by unfold maxLen; omega) HTS.out _ HTL2.out).mono ?_
                              rintro e w3 ⟨rfl, rfl⟩
                              have hll := An.long_len texts
                              obtain ⟨L, hL⟩ : ∃ L, An.long texts = L := ⟨_, rfl⟩
                              rw [hL] at HF hll ⊢
                              rw [HTN.out] at hll
                              clear hL
                              by_cases h253 : L ≤ 253
                              · have j1 : (L : Int) ≤ 253 := by omega
                                have hadd : IntKind.i64.wrap (adr + (tn : Int)) = adr + (tn : Int) := by have := hll (by omega); rw [IntKind.wrap_i64]; omega
                                clear hll
                                rw [decide_eq_true h253] at HF
                                by_cases h256 : adr + (tn : Int) ≤ 256
                                · have HV : Hid (V = true) := qh (by rw [HF.out, HC.out.2.2, decide_eq_true h256]; simp)
                                  go_wp2_with fail
                                  go_ret
                                  exact ⟨by rw [HV.out]; (first | rfl | (simp; omega)), hbw⟩
                                · have HV : Hid (V = false) := qh (by rw [HF.out, HC.out.2.2, decide_eq_false h256]; simp)
                                  go_wp2_with fail
                                  go_ret
                                  exact ⟨by rw [HV.out]; (first | rfl | (simp; omega)), hbw⟩
                              · have j1 : ¬ (L : Int) ≤ 253 := by omega
                                have HV : Hid (V = false) := qh (by rw [HF.out, decide_eq_false h253]; simp)
                                go_wp2_with fail
                                go_ret
                                exact ⟨by rw [HV.out]; (first | rfl | (simp; omega)), hbw⟩
                        · have p3' : ¬ (0 : Int) < (tn : Int) := by omega
                          rw [decide_eq_false p3] at HF
                          have HV : Hid (V = false) := qh (by rw [HF.out]; simp)
                          go_wp2_with fail
                          go_ret
                          exact ⟨by rw [HV.out]; rfl, hbw⟩
                      · have q1 : ((hn : Int) != 0) = false := by rw [bne_eq_false_iff_eq]; exact p1
                        have q2 : ((kn : Int) != 0) = true := by rw [bne_iff_ne]; exact p2
                        have HV : Hid (V = false) := qh (by rw [HF.out, decide_eq_false p2]; simp)
                        go_wp2_with fail
                        go_ret
                        exact ⟨by rw [HV.out]; rfl, hbw⟩
                    · have q1 : ((hn : Int) != 0) = true := by rw [bne_iff_ne]; exact p1
                      have HV : Hid (V = false) := qh (by rw [HF.out, decide_eq_false p1]; simp)
                      go_wp2_with fail
                      go_ret
                      exact ⟨by rw [HV.out]; rfl, hbw⟩
                  · have d43 : (code == 43) = false := by rw [beq_eq_false_iff_ne]; exact c43
                    have hwb : An.wantBits a ⟨0, bits, words, texts⟩ = 0 := by unfold An.wantBits; rw [HC.out.1, HC.out.2.1]; first | exact if_pos ⟨rfl, by omega⟩ | (rw [if_neg (by simp; omega)])
                    have hww : An.wantWords a ⟨0, bits, words, texts⟩ = 0 := by unfold An.wantWords; rw [HC.out.1, HC.out.2.1]; first | exact if_pos ⟨rfl, by omega⟩ | (rw [if_neg (by simp; omega)])
                    have hwt : An.wantTexts a ⟨0, bits, words, texts⟩ = false := by unfold An.wantTexts; rw [HC.out.1]; simp; try omega
                    rw [hwb, hww, hwt] at HF
                    clear hwb hww hwt
                    by_cases p1 : (hn : Int) = 0
                    · by_cases p2 : (kn : Int) = 0
                      · have q1 : ((hn : Int) != 0) = false := by rw [bne_eq_false_iff_eq]; exact p1
                        have q2 : ((kn : Int) != 0) = false := by rw [bne_eq_false_iff_eq]; exact p2
                        rw [decide_eq_true p1, decide_eq_true p2] at HF
                        clear p1 p2
                        by_cases p3 : 0 < tn
                        · have p3' : (0 : Int) < (tn : Int) := by omega
                          rw [decide_eq_true p3] at HF
                          have HV : Hid (V = false) := qh (by rw [HF.out]; simp)
                          go_wp2_with fail
                          go_ret
                          exact ⟨by rw [HV.out]; rfl, hbw⟩
                        · have p3' : ¬ (0 : Int) < (tn : Int) := by omega
                          rw [decide_eq_false p3] at HF
                          have HV : Hid (V = true) := qh (by rw [HF.out, show An.shortTexts texts = true from short_end (j := 0) (by simp) (.inl (by rw [HTN.out]; omega))]; simp)
                          obtain rfl : tn = 0 := by omega
                          go_wp2_with fail
                          go_loop [8] (fun iv => iv = .int .i64 0) (fun iv => 1 - (intOf iv).toNat)
                          case atStart => rfl
                          case round =>
                            obtain rfl := hrel
                            go_wp2_with fail
                            go_ret
                            exact ⟨by rw [HV.out]; rfl, hbw⟩
                      · have q1 : ((hn : Int) != 0) = false := by rw [bne_eq_false_iff_eq]; exact p1
                        have q2 : ((kn : Int) != 0) = true := by rw [bne_iff_ne]; exact p2
                        have HV : Hid (V = false) := qh (by rw [HF.out, decide_eq_false p2]; simp)
                        go_wp2_with fail
                        go_ret
                        exact ⟨by rw [HV.out]; rfl, hbw⟩
                    · have q1 : ((hn : Int) != 0) = true := by rw [bne_iff_ne]; exact p1
                      have HV : Hid (V = false) := qh (by rw [HF.out, decide_eq_false p1]; simp)
                      go_wp2_with fail
                      go_ret
                      exact ⟨by rw [HV.out]; rfl, hbw⟩
        · have hx3 : (exc == 0) = false := by rw [beq_eq_false_iff_ne]; exact hx2
          have hwb : An.wantBits a ⟨exc, bits, words, texts⟩ = 0 := by unfold An.wantBits; rw [HC.out.1, HC.out.2.1]; first | exact if_pos ⟨rfl, by omega⟩ | (rw [if_neg (by simp; omega)])
          have hww : An.wantWords a ⟨exc, bits, words, texts⟩ = 0 := by unfold An.wantWords; rw [HC.out.1, HC.out.2.1]; first | exact if_pos ⟨rfl, by omega⟩ | (rw [if_neg (by simp; omega)])
          have hwt : An.wantTexts a ⟨exc, bits, words, texts⟩ = false := by unfold An.wantTexts; rw [HC.out.1]; simp; try omega
          rw [hwb, hww, hwt] at HF
          clear hwb hww hwt
          by_cases p1 : (hn : Int) = 0
          · by_cases p2 : (kn : Int) = 0
            · have q1 : ((hn : Int) != 0) = false := by rw [bne_eq_false_iff_eq]; exact p1
              have q2 : ((kn : Int) != 0) = false := by rw [bne_eq_false_iff_eq]; exact p2
              rw [decide_eq_true p1, decide_eq_true p2] at HF
              clear p1 p2
              by_cases p3 : 0 < tn
              · have p3' : (0 : Int) < (tn : Int) := by omega
                rw [decide_eq_true p3] at HF
                have HV : Hid (V = false) := qh (by rw [HF.out]; simp)
                go_wp2_with fail
                go_ret
                exact ⟨by rw [HV.out]; rfl, hbw⟩
              · have p3' : ¬ (0 : Int) < (tn : Int) := by omega
                rw [decide_eq_false p3] at HF
                have HV : Hid (V = true) := qh (by rw [HF.out, show An.shortTexts texts = true from short_end (j := 0) (by simp) (.inl (by rw [HTN.out]; omega))]; simp)
                obtain rfl : tn = 0 := by omega
                go_wp2_with fail
                go_loop [8] (fun iv => iv = .int .i64 0) (fun iv => 1 - (intOf iv).toNat)
                case atStart => rfl
                case round =>
                  obtain rfl := hrel
                  go_wp2_with fail
                  go_ret
                  exact ⟨by rw [HV.out]; rfl, hbw⟩
            · have q1 : ((hn : Int) != 0) = false := by rw [bne_eq_false_iff_eq]; exact p1
              have q2 : ((kn : Int) != 0) = true := by rw [bne_iff_ne]; exact p2
              have HV : Hid (V = false) := qh (by rw [HF.out, decide_eq_false p2]; simp)
              go_wp2_with fail
              go_ret
              exact ⟨by rw [HV.out]; rfl, hbw⟩
          · have q1 : ((hn : Int) != 0) = true := by rw [bne_iff_ne]; exact p1
            have HV : Hid (V = false) := qh (by rw [HF.out, decide_eq_false p1]; simp)
            go_wp2_with fail
            go_ret
            exact ⟨by rw [HV.out]; rfl, hbw⟩
end Go.Proofs.YtlgmjnjhdamknaaGreat
