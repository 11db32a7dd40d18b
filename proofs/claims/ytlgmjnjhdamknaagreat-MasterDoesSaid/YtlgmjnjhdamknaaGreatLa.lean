
/- A part of the proof of the law MasterDoes. -/
import Derived.Test.YtlgmjnjhdamknaaGreatMem
import Derived.Test.YtlgmjnjhdamknaaGreatLn
import Derived.Lib.MinMax
import Derived.Test.YtlgmjnjhdamknaaGreatRtu
namespace Go.Proofs.YtlgmjnjhdamknaaGreat
open Go.RowKit Go.Shelf

theorem LK.outs_le (ps : List PK) (a : Ask) (j : Nat) : (LK.outs (ps.take j) a).length ≤ (LK.outs ps a).length := by
  conv => rhs; rw [← List.take_append_drop j ps]
  unfold LK.outs
  rw [List.flatMap_append, List.length_append]
  omega
def LaidPost (w : World) (l : List UInt8) (e : Ending) (w' : World) : Prop := ∃ A n c, e = .returned (.slice A n c) ∧ l.length = n ∧ w'.ownsRow w.heap.size 5 1 (.slice A n c) n (l.map u8v) ∧ Below w.heap.size w w'

set_option maxRecDepth 100000 in
set_option maxHeartbeats 1000000 in
theorem lay6_any (lo : Nat) (w0 W : World) (L : LK) (hps : L.parts.length ≤ 4) (v : Value) (hL : LayIn lo w0 L v) (hW : Below w0.heap.size w0 W) (a : Ask) (h k : Option Addr × Nat × Nat) (ha : AskIn W a h k)
    (hfit : ∀ p ∈ L.parts, p.fits a = true) (hbd : (L.begin_ ++ LK.outs L.parts a).length ≤ 10000) :
    Calls Tryz.prog 43 #[v, askV a h k] W (LaidPost W (L.begin_ ++ LK.outs L.parts a)) := by
  obtain ⟨A, n, c, b, m, g, pvs, rfl, h1, h2, h3, h4, h5, h6, h7, h8, h9, h10⟩ := hL.since (Since.of_below hW)
  have hpl := h10.length
  -- the worlds behind the boxes
  have hbA : Below W.heap.size W ((W.alloc (.cells #[.slice A n c, .slice (some ⟨b, 0, none⟩) m m, .func (.func g) #[] #[]] 98)).alloc (.cells #[.int .i64 a.code, .int .i64 a.addr, .int .i64 a.count, .int .i64 a.to, .slice h.1 h.2.1 h.2.2, .slice k.1 k.2.1 k.2.2, u16v a.and_, u16v a.or_] 40)) := ((Below.refl _ W).alloc (zq _) _).alloc (by simp) _
  have hrl := row_at W #[.slice A n c, .slice (some ⟨b, 0, none⟩) m m, .func (.func g) #[] #[]] 98 W.heap.size rfl
  have hrl := old_at hrl (.cells #[.int .i64 a.code, .int .i64 a.addr, .int .i64 a.count, .int .i64 a.to, .slice h.1 h.2.1 h.2.2, .slice k.1 k.2.1 k.2.2, u16v a.and_, u16v a.or_] 40)
  have hra := row_at (W.alloc (.cells #[.slice A n c, .slice (some ⟨b, 0, none⟩) m m, .func (.func g) #[] #[]] 98)) #[.int .i64 a.code, .int .i64 a.addr, .int .i64 a.count, .int .i64 a.to, .slice h.1 h.2.1 h.2.2, .slice k.1 k.2.1 k.2.2, u16v a.and_, u16v a.or_] 40 (W.heap.size + 1) (by simp)
  have hsz : ((W.alloc (.cells #[.slice A n c, .slice (some ⟨b, 0, none⟩) m m, .func (.func g) #[] #[]] 98)).alloc (.cells #[.int .i64 a.code, .int .i64 a.addr, .int .i64 a.count, .int .i64 a.to, .slice h.1 h.2.1 h.2.2, .slice k.1 k.2.1 k.2.2, u16v a.and_, u16v a.or_] 40)).heap.size = W.heap.size + 1 + 1 := by simp
  rw [askV_eq]
  generalize hW2 : ((W.alloc (.cells #[.slice A n c, .slice (some ⟨b, 0, none⟩) m m, .func (.func g) #[] #[]] 98)).alloc (.cells #[.int .i64 a.code, .int .i64 a.addr, .int .i64 a.count, .int .i64 a.to, .slice h.1 h.2.1 h.2.2, .slice k.1 k.2.1 k.2.2, u16v a.and_, u16v a.or_] 40)) = W2 at *
  have hr8 := row_later h8 hbA
  have hpa := h10.since (Since.of_below hbA)
  have ha2 := ha.below hbA
  have hH : Hid (W2.heap.size = W.heap.size + 1 + 1) := qh hsz
  have HCL := qh (clone_any A n c L.begin_ h1 (by have := hbd; rw [List.length_append] at this; omega) W2 (h5.below hbA (zq _)))
  have HFT := qh hfit
  have HBD := qh hbd
  have HM := qh h2
  have HPL := qh hpl
  have hm4 : m ≤ 4 := by omega
  have HZ := qh hbA.size
  obtain ⟨q0, q1, q2, _⟩ := row_tri hrl
  clear h8 h10 h5 h6 h7 h3 h4 h1 hL hps h2 hpl hfit hbd
  go_enter Tryz.func43, Tryz.ntmps43
  go_wp2_with fail
  clear hW2 hsz
  refine HCL.out.mono ?_
  rintro e w3 ⟨A3, n3, c3, rfl, k1, k2, hb3⟩
  have hl0 : W.heap.size < w3.heap.size := row_lt (row_later hrl hb3)
  obtain ⟨q0, q1, q2, _⟩ := row_tri (row_later hrl hb3)
  go_wp2_with fail
  go_loopw [5, 7, 14] (fun bv _ i wr => ∃ j : Nat, j ≤ m ∧ i = .int .i64 j ∧ ∃ A' n' c', bv = .slice A' n' c' ∧ Hid ((L.begin_ ++ LK.outs (L.parts.take j) a).length = n') ∧ wr.ownsRow W2.heap.size 5 1 (.slice A' n' c') n' ((L.begin_ ++ LK.outs (L.parts.take j) a).map u8v) ∧ Below W2.heap.size W2 wr) (fun _ _ i _ => m - (intOf i).toNat)
  case atStart => exact ⟨0, Nat.zero_le _, rfl, A3, n3, c3, rfl, qh (by simpa [LK.outs] using k1), by simpa [LK.outs] using k2, hb3⟩
  case round =>
    clear k1 k2 hb3 hl0 q0 q1 q2
    obtain ⟨j, hj, rfl, A', n', c', rfl, HN, hown, hbe⟩ := hrel
    have z2 := hbe.size
    have hl1 : W.heap.size + 1 < wr.heap.size := row_lt (row_later hra hbe)
    obtain ⟨r0, r1, r2, r3, r4, r5, r6, r7⟩ := row_eight (row_later hra hbe)
    by_cases hjm : j < m
    · have hj1 : j < L.parts.length := by have := HM.out; omega
      have hj2 : j < pvs.length := by have := HPL.out; omega
      have P := hpa.get j hj1 hj2 W2 (Since.refl _ _)
      have hrow := row_later hr8 hbe
      have hcl : ∀ i, i < 4 → wr.cell? ⟨b, 4 * j + i, none⟩ = pvs[j].cells[i]? := fun i hi => by
        rw [cell_of_row _ _ _ _ _ _ hrow, ← PV.cells_get pvs j i hj2 hi]
        simp
      have HO := qh (LK.outs_take L.parts a j hj1)
      have HF := qh (HFT.out _ (List.getElem_mem hj1))
      have HN2 : n' ≤ 10000 := by
        have h1 := HN.out
        have h2 := HBD.out
        have h3 := LK.outs_le L.parts a j
        rw [List.length_append] at h1 h2
        omega
      generalize L.parts[j] = p at *
      generalize pvs[j] = v at *
      obtain ⟨g1, g2, g3, g4, l1, l2, l3, l4⟩ := v
      have e0 : wr.cell? ⟨b, j * 4, none⟩ = some (.func (.func g1) #[] l1) := by have := hcl 0 (by omega); rw [Nat.mul_comm] at this; exact this
      have e1 : wr.cell? ⟨b, j * 4 + 1, none⟩ = some (.func (.func g2) #[] l2) := by have := hcl 1 (by omega); rw [Nat.mul_comm] at this; exact this
      have e2 : wr.cell? ⟨b, j * 4 + 2, none⟩ = some (.func (.func g3) #[] l3) := by have := hcl 2 (by omega); rw [Nat.mul_comm] at this; exact this
      have e3 : wr.cell? ⟨b, j * 4 + 3, none⟩ = some (.func (.func g4) #[] l4) := by have := hcl 3 (by omega); rw [Nat.mul_comm] at this; exact this
      have eg2 := P.e2
      unfold Enters at eg2
      dsimp only at eg2
      have i1 : (j : Int) < (m : Int) := by omega
      have hbp : Below W2.heap.size W2 (wr.alloc (.cells #[.func (.func g1) #[] l1, .func (.func g2) #[] l2, .func (.func g3) #[] l3, .func (.func g4) #[] l4] 122)) := hbe.alloc z2 _
      have HC2 : Hid (Calls Tryz.prog g2 (#[.slice A' n' c', .agg #[.int .i64 a.code, .int .i64 a.addr, .int .i64 a.count, .int .i64 a.to, .slice h.1 h.2.1 h.2.2, .slice k.1 k.2.1 k.2.2, u16v a.and_, u16v a.or_]] ++ l2) (wr.alloc (.cells #[.func (.func g1) #[] l1, .func (.func g2) #[] l2, .func (.func g3) #[] l3, .func (.func g4) #[] l4] 122)) fun e w' => ∃ A m c, e = .returned (.slice A m c) ∧ w'.ownsRow W2.heap.size 5 1 (.slice A m c) m ((L.begin_ ++ LK.outs (L.parts.take (j + 1)) a).map u8v) ∧ Below W2.heap.size W2 w') := qh ((P.c2 W2 _ (Below.refl _ _) hbp a h k ha2 HF.out W2.heap.size (.slice A' n' c') n' (L.begin_ ++ LK.outs (L.parts.take j) a) (hown.alloc _) (zq _) hbp.size HN2).mono fun e w' ⟨A, m, c, h1, h2, h3⟩ => ⟨A, m, c, h1, by rw [HO.out, ← List.append_assoc]; exact h2, hbp.trans h3⟩)
      clear hcl hrow P hown
      go_wp2_with (first | (go_at_fn g2; refine HC2.out.mono ?_; rintro e w4 ⟨A5, n5, c5, rfl, hown5, hb5⟩) | fail)
      go_roundw
      case rel =>
        exact ⟨j + 1, by omega, by go_num, A5, n5, c5, rfl, qh (by have := hown5.1; rw [List.length_map] at this; omega), hown5, hb5⟩
      case measure => simp [intOf]; omega
    · obtain rfl : j = m := by omega
      have HTK : Hid (L.parts.take j = L.parts) := qh (by rw [← HM.out, List.take_length])
      rw [HTK.out] at hown HN
      have hz := HZ.out
      go_wp2_with fail
      go_ret
      exact ⟨A', n', c', rfl, HN.out, own_lower hown hz, hbA.trans (hbe.mono hz)⟩
end Go.Proofs.YtlgmjnjhdamknaaGreat

namespace Go.Proofs.YtlgmjnjhdamknaaGreat
open Go.RowKit Go.Shelf

end Go.Proofs.YtlgmjnjhdamknaaGreat

namespace Go.Proofs.YtlgmjnjhdamknaaGreat
open Go.RowKit Go.Shelf

theorem LayPost.at_none {w w' : World} {c : Int} {e : Ending} (h : LayPost w c e w') (hl : layOf c = none) : e = .returned (.tuple #[.agg #[.slice none 0 0, .slice none 0 0, .nilFunc], .bool false]) ∧ Below w.heap.size w w' := by
  obtain ⟨h1, h2⟩ := h
  rw [hl] at h2
  exact ⟨h2, h1⟩
theorem LayPost.at_some {w w' : World} {c : Int} {e : Ending} {L : LK} (h : LayPost w c e w') (hl : layOf c = some L) : Below w.heap.size w w' ∧ ∃ A n k b m g, e = .returned (.tuple #[.agg #[.slice A n k, .slice (some ⟨b, 0, none⟩) m m, .func (.func g) #[] #[]], .bool true]) ∧ LayIn w.heap.size w' L (.agg #[.slice A n k, .slice (some ⟨b, 0, none⟩) m m, .func (.func g) #[] #[]]) ∧ InsideOK g L.inside := by
  obtain ⟨h1, h2⟩ := h
  rw [hl] at h2
  obtain ⟨v, rfl, hL⟩ := h2
  have hL2 := hL
  obtain ⟨A, n, k, b, m, g, pvs, rfl, _, _, _, _, _, _, _, _, hI, _⟩ := hL2
  exact ⟨h1, A, n, k, b, m, g, rfl, hL, hI⟩

set_option maxRecDepth 100000 in
set_option maxHeartbeats 1000000 in
theorem right6_any (a : Ask) (h k : Option Addr × Nat × Nat) (w : World) (ha : AskIn w a h k) :
    Calls Tryz.prog 37 #[askV a h k] w fun e w' => e = .returned (.bool (Ak.right a)) ∧ Below w.heap.size w w' := by
  have hb0 : Below w.heap.size w (w.alloc (.cells #[.int .i64 a.code, .int .i64 a.addr, .int .i64 a.count, .int .i64 a.to, .slice h.1 h.2.1 h.2.2, .slice k.1 k.2.1 k.2.2, u16v a.and_, u16v a.or_] 40)) := (Below.refl _ _).alloc (zq _) _
  have hra := row_at w #[.int .i64 a.code, .int .i64 a.addr, .int .i64 a.count, .int .i64 a.to, .slice h.1 h.2.1 h.2.2, .slice k.1 k.2.1 k.2.2, u16v a.and_, u16v a.or_] 40 w.heap.size rfl
  have ha1 := ha.below hb0
  have HLO := qh (layoutOf_any a.code)
  cases hl : layOf a.code with
  | none =>
    have HR : Hid (Ak.right a = false) := qh (right_none hl)
    have HN := qh hl
    clear hl
    rw [askV_eq]
    go_enter Tryz.func37, Tryz.ntmps37
    go_wp2_with fail
    refine (HLO.out _).mono ?_
    intro e w3 hp
    obtain ⟨rfl, hb3⟩ := hp.at_none HN.out
    go_wp2_with fail
    go_ret
    exact ⟨by rw [HR.out]; rfl, (hb0.trans (hb3.mono hb0.size)).alloc (Nat.le_trans hb0.size hb3.size) _⟩
  | some L =>
    have HN := qh hl
    have HR : Hid (Ak.right a = (L.fits a && L.inside.ok a)) := qh (right_some hl)
    have HS : Hid (L.fits a = true → SmallA a) := qh (fits_small hl)
    have HP : Hid (L.parts.length ≤ 4) := qh (layOf_parts hl).1
    clear hl
    rw [askV_eq]
    go_enter Tryz.func37, Tryz.ntmps37
    go_wp2_with fail
    refine (HLO.out _).mono ?_
    intro e w3 hp
    obtain ⟨hb3, A, n, c, b, m, g, rfl, hL, hI⟩ := hp.at_some HN.out
    have hlt3 : w.heap.size < w3.heap.size := row_lt (row_later hra hb3)
    obtain ⟨r0, r1, r2, r3, r4, r5, r6, r7⟩ := row_eight (row_later hra hb3)
    have hb4 : Below w3.heap.size w3 (w3.alloc (.cells #[.slice A n c, .slice (some ⟨b, 0, none⟩) m m, .func (.func g) #[] #[]] 98)) := (Below.refl _ _).alloc (zq _) _
    have hr3 := row_at w3 #[.slice A n c, .slice (some ⟨b, 0, none⟩) m m, .func (.func g) #[] #[]] 98 w3.heap.size rfl
    have ha4 := (ha1.below hb3).below hb4
    have hra4 := row_later (row_later hra hb3) hb4
    have hbw4 := hb0.trans ((hb3.trans (hb4.mono hb3.size)).mono hb0.size)
    have HF := qh (fits6_any _ w3 (w3.alloc (.cells #[.slice A n c, .slice (some ⟨b, 0, none⟩) m m, .func (.func g) #[] #[]] 98)) L HP.out _ hL hb4 a h k ha4)
    rw [askV_eq] at HF
    have eg := hI.en
    unfold Enters at eg
    cases hf : L.fits a with
    | false =>
      rw [hf] at HF HR
      clear hf
      go_wp2_with fail
      refine HF.out.mono ?_
      rintro e w5 ⟨rfl, hb5⟩
      go_wp2_with fail
      go_ret
      exact ⟨by rw [HR.out]; rfl, hbw4.trans (hb5.mono hbw4.size)⟩
    | true =>
      have HSM := qh (HS.out hf)
      rw [hf] at HF HR
      clear hf HS
      have HIN := qh (fun W ha => hI.ca W a h k ha HSM.out)
      rw [askV_eq] at HIN
      go_wp2_with fail
      refine HF.out.mono ?_
      rintro e w5 ⟨rfl, hb5⟩
      have ha5 := ha4.below hb5
      obtain ⟨q0, q1, q2, _⟩ := row_tri (row_later hr3 hb5)
      obtain ⟨r0, r1, r2, r3, r4, r5, r6, r7⟩ := row_eight (row_later hra4 hb5)
      have hbw5 := hbw4.trans (hb5.mono hbw4.size)
      generalize hok : L.inside.ok a = ok at *
      go_wp2_with (go_at_fn g; refine (HIN.out _ ha5).mono ?_; rintro e w6 ⟨rfl, hb6⟩)
      go_ret
      exact ⟨by rw [HR.out]; rfl, hbw5.trans (hb6.mono hbw5.size)⟩

set_option maxRecDepth 100000 in
set_option maxHeartbeats 1000000 in
theorem bytes6_any (a : Ask) (h k : Option Addr × Nat × Nat) (w : World) (ha : AskIn w a h k) :
    Calls Tryz.prog 22 #[askV a h k] w (AskBytesPost w a) := by
  have hb0 : Below w.heap.size w (w.alloc (.cells #[.int .i64 a.code, .int .i64 a.addr, .int .i64 a.count, .int .i64 a.to, .slice h.1 h.2.1 h.2.2, .slice k.1 k.2.1 k.2.2, u16v a.and_, u16v a.or_] 40)) := (Below.refl _ _).alloc (zq _) _
  have hra := row_at w #[.int .i64 a.code, .int .i64 a.addr, .int .i64 a.count, .int .i64 a.to, .slice h.1 h.2.1 h.2.2, .slice k.1 k.2.1 k.2.2, u16v a.and_, u16v a.or_] 40 w.heap.size rfl
  have ha1 := ha.below hb0
  have HLO := qh (layoutOf_any a.code)
  have HRI := qh (right6_any a h k (w.alloc (.cells #[.int .i64 a.code, .int .i64 a.addr, .int .i64 a.count, .int .i64 a.to, .slice h.1 h.2.1 h.2.2, .slice k.1 k.2.1 k.2.2, u16v a.and_, u16v a.or_] 40)) ha1)
  rw [askV_eq] at HRI
  cases hr : Ak.right a with
  | false =>
    have HP : Hid (Ak.bytes a = [] ∧ Ak.codeA a = 2) := qh (by unfold Ak.bytes Ak.codeA; rw [hr]; exact ⟨rfl, rfl⟩)
    rw [hr] at HRI
    clear hr
    rw [askV_eq]
    go_enter Tryz.func22, Tryz.ntmps22
    go_wp2_with fail
    refine HRI.out.mono ?_
    rintro e w2 ⟨rfl, hb2⟩
    go_wp2_with fail
    go_ret2
    exact ⟨none, 0, 0, by rw [HP.out.2]; rfl, by rw [HP.out.1]; rfl, by rw [HP.out.1]; exact World.ownsRow_nil _ _ _ _, hb0.trans (hb2.mono hb0.size)⟩
  | true =>
    obtain ⟨L, hl⟩ := right_lay hr
    have HN := qh hl
    have HX := qh (right_text hl hr)
    have HP : Hid (Ak.bytes a = Ak.text a ∧ Ak.codeA a = 0) := qh (by unfold Ak.bytes Ak.codeA; rw [hr]; exact ⟨rfl, rfl⟩)
    have HPS : Hid (L.parts.length ≤ 4) := qh (layOf_parts hl).1
    rw [hr] at HRI
    clear hl hr
    rw [askV_eq]
    go_enter Tryz.func22, Tryz.ntmps22
    go_wp2_with fail
    refine HRI.out.mono ?_
    rintro e w2 ⟨rfl, hb2⟩
    have hbw2 := hb0.trans (hb2.mono hb0.size)
    have hra2 := row_later hra hb2
    have ha2 := ha1.below hb2
    have hlt2 : w.heap.size < w2.heap.size := row_lt hra2
    obtain ⟨r0, r1, r2, r3, r4, r5, r6, r7⟩ := row_eight hra2
    go_wp2_with fail
    refine (HLO.out _).mono ?_
    intro e w3 hp
    obtain ⟨hb3, A, n, c, b, m, g, rfl, hL, hI⟩ := hp.at_some HN.out
    clear r0 r1 r2 r3 r4 r5 r6 r7
    have hlt3 : w.heap.size < w3.heap.size := row_lt (row_later hra2 hb3)
    obtain ⟨r0, r1, r2, r3, r4, r5, r6, r7⟩ := row_eight (row_later hra2 hb3)
    have hb4 : Below w3.heap.size w3 (w3.alloc (.cells #[.slice A n c, .slice (some ⟨b, 0, none⟩) m m, .func (.func g) #[] #[]] 98)) := (Below.refl _ _).alloc (zq _) _
    have ha4 := (ha2.below hb3).below hb4
    have hbw4 := hbw2.trans ((hb3.trans (hb4.mono hb3.size)).mono hbw2.size)
    have HLA := qh (lay6_any _ w3 (w3.alloc (.cells #[.slice A n c, .slice (some ⟨b, 0, none⟩) m m, .func (.func g) #[] #[]] 98)) L HPS.out _ hL hb4 a h k ha4 HX.out.1 (by rw [HX.out.2.1]; exact HX.out.2.2))
    rw [askV_eq, HX.out.2.1] at HLA
    go_wp2_with fail
    refine HLA.out.mono ?_
    rintro e w5 ⟨A5, n5, c5, rfl, k1, k2, hb5⟩
    go_wp2_with fail
    go_ret2
    exact ⟨A5, n5, c5, by rw [HP.out.2]; rfl, by rw [HP.out.1]; exact k1, by rw [HP.out.1]; exact own_lower k2 hbw4.size, hbw4.trans (hb5.mono hbw4.size)⟩
end Go.Proofs.YtlgmjnjhdamknaaGreat

namespace Go.Proofs.YtlgmjnjhdamknaaGreat
open Go.RowKit Go.Shelf

end Go.Proofs.YtlgmjnjhdamknaaGreat

namespace Go.Proofs.YtlgmjnjhdamknaaGreat
open Go.RowKit Go.Shelf

namespace PK
end PK
theorem two_word (x y : UInt8) : Word.two (Word.word x y) = [x, y] := by
  have hx := x.toNat_lt
  have hy := y.toNat_lt
  unfold Word.two Word.word
  rw [UInt16.toNat_ofNat', Nat.mod_eq_of_lt (by omega)]
  have e1 : (256 * x.toNat + y.toNat) / 256 = x.toNat := by omega
  have e2 : (256 * x.toNat + y.toNat) % 256 = y.toNat := by omega
  rw [e1, e2, UInt8.ofNat_toNat, UInt8.ofNat_toNat]
theorem bytes_words (l : List UInt8) (h : Word.isWords l = true) : Word.bytes (Word.words l) = l := by
  have hx : ∀ (k : Nat) (l : List UInt8), l.length = 2 * k → ∃ ws, l = Word.bytes ws := by
    intro k
    induction k with
    | zero => intro l hl; exact ⟨[], List.eq_nil_of_length_eq_zero (by omega)⟩
    | succ k ih =>
      intro l hl
      rcases l with _ | ⟨x, _ | ⟨y, r⟩⟩
      · simp at hl
      · simp at hl; omega
      · obtain ⟨ws, rfl⟩ := ih r (by simp only [List.length_cons] at hl; omega)
        refine ⟨Word.word x y :: ws, ?_⟩
        have e := two_word x y
        rw [Word.bytes_cons]
        unfold Word.two at e
        simp only [List.cons.injEq] at e
        rw [e.1, e.2.1]
  unfold Word.isWords at h
  rw [beq_iff_eq] at h
  obtain ⟨ws, rfl⟩ := hx (l.length / 2) l (by omega)
  rw [Word.words_bytes]

theorem isBitsI_nat (b : List UInt8) (n : Nat) : Word.isBitsI b (n : Nat) = Word.isBits b n := by
  unfold Word.isBitsI
  simp

end Go.Proofs.YtlgmjnjhdamknaaGreat

namespace Go.Proofs.YtlgmjnjhdamknaaGreat
open Go.RowKit

namespace An
def countedR : List UInt8 → Option (List UInt8 × List UInt8)
  | [] => none
  | n :: r => if n.toNat ≤ r.length then some (r.take n.toNat, r.drop n.toNat) else none
def justR (p b : List UInt8) : Option (List UInt8) := if p.length ≤ b.length ∧ b.take p.length = p then some (b.drop p.length) else none
def textAt (i : Nat) : List UInt8 → Option (ByteArray × List UInt8)
  | [] => none
  | p :: r => if p.toNat = i then (countedR r).map fun x => (⟨x.1.toArray⟩, x.2) else none
def textsR : Nat → Nat → List UInt8 → Option (List ByteArray × List UInt8)
  | _, 0, b => some ([], b)
  | i, k + 1, b => match textAt i b with
    | none => none
    | some (s, r) => (textsR (i + 1) k r).map fun x => (s :: x.1, x.2)
def echo (a : Ask) : List UInt8 := if a.code = 15 ∨ a.code = 16 then ((Ak.bytes a).drop 1).take 4 else (Ak.bytes a).drop 1
def ahead (a : Ask) : List UInt8 := [14, b1 a.count.toNat, 1, 0, 0]
def textsAll (a : Ask) (b : List UInt8) : Option (List ByteArray × List UInt8) :=
  match justR (ahead a) b with
  | none => none
  | some [] => none
  | some (n :: r) => textsR a.addr.toNat n.toNat r
def bodyR (a : Ask) (b : List UInt8) : Option (Ans × List UInt8) :=
  if a.code = 1 ∨ a.code = 2 then
    match countedR b with
    | none => none
    | some (p, r) => if Word.isBitsI p a.count then some (⟨0, Word.ansBitsI p a.count, [], []⟩, r) else none
  else if a.code = 3 ∨ a.code = 4 ∨ a.code = 23 then
    match countedR b with
    | none => none
    | some (p, r) => if Word.isWords p then some (⟨0, [], Word.ansWords p, []⟩, r) else none
  else if a.code = 43 then (textsAll a b).map fun x => (⟨0, [], [], x.1⟩, x.2)
  else (justR (echo a) b).map fun r => (zero, r)
def answerR (a : Ask) : List UInt8 → Option (Ans × List UInt8)
  | [] => none
  | c :: r => if (c.toNat : Int) = 128 + a.code then
      match r with
      | [] => none
      | x :: r2 => if x.toNat = 0 then none else some (⟨x.toNat, [], [], []⟩, r2)
    else if (c.toNat : Int) = a.code then bodyR a r else none
def readR (a : Ask) (b : List UInt8) : Ans × Nat :=
  match answerR a b with
  | none => (zero, 2)
  | some (x, r) => if r = [] ∧ right a x = true then (x, 0) else (zero, 2)

theorem countedR_cons (n : UInt8) (r : List UInt8) : countedR (n :: r) = if n.toNat ≤ r.length then some (r.take n.toNat, r.drop n.toNat) else none := rfl
theorem textAt_cons (i : Nat) (p : UInt8) (r : List UInt8) : textAt i (p :: r) = if p.toNat = i then (countedR r).map fun x => (⟨x.1.toArray⟩, x.2) else none := rfl
theorem answerR_cons (a : Ask) (c : UInt8) (r : List UInt8) : answerR a (c :: r) = if (c.toNat : Int) = 128 + a.code then
      match r with
      | [] => none
      | x :: r2 => if x.toNat = 0 then none else some (⟨x.toNat, [], [], []⟩, r2)
    else if (c.toNat : Int) = a.code then bodyR a r else none := by
  cases r <;> rfl
theorem countedR_some {b p r : List UInt8} (h : countedR b = some (p, r)) : p.length ≤ 255 ∧ b = b1 p.length :: (p ++ r) := by
  cases b with
  | nil => cases h
  | cons n t =>
    rw [countedR_cons] at h
    split at h
    · next hn =>
      simp only [Option.some.injEq, Prod.mk.injEq] at h
      obtain ⟨rfl, rfl⟩ := h
      have h1 := n.toNat_lt
      have h2 : (t.take n.toNat).length = n.toNat := by rw [List.length_take]; omega
      refine ⟨by omega, ?_⟩
      rw [h2, List.take_append_drop]
      congr 1
      unfold b1
      exact UInt8.ofNat_toNat.symm
    · cases h
theorem countedR_lay (p r : List UInt8) (h : p.length ≤ 255) : countedR (b1 p.length :: (p ++ r)) = some (p, r) := by
  rw [countedR_cons, b1_toNat _ (by omega), if_pos (by rw [List.length_append]; omega), List.take_left, List.drop_left]
theorem justR_some {p b r : List UInt8} (h : justR p b = some r) : b = p ++ r := by
  unfold justR at h
  split at h
  · next hn =>
    simp only [Option.some.injEq] at h
    subst h
    conv => lhs; rw [← List.take_append_drop p.length b, hn.2]
  · cases h
theorem justR_lay (p r : List UInt8) : justR p (p ++ r) = some r := by
  unfold justR
  rw [if_pos ⟨by rw [List.length_append]; omega, List.take_left⟩, List.drop_left]
theorem textAt_some {i : Nat} {b r : List UInt8} {s : ByteArray} (h : textAt i b = some (s, r)) : i < 256 ∧ s.size ≤ 255 ∧ b = b1 i :: b1 s.size :: (s.data.toList ++ r) := by
  cases b with
  | nil => cases h
  | cons p t =>
    rw [textAt_cons] at h
    split at h
    · next hp =>
      obtain ⟨⟨x, y⟩, hx, he⟩ := Option.map_eq_some_iff.1 h
      simp only [Prod.mk.injEq] at he
      obtain ⟨rfl, rfl⟩ := he
      obtain ⟨h1, h2⟩ := countedR_some hx
      have h3 := p.toNat_lt
      have hs : (⟨x.toArray⟩ : ByteArray).size = x.length := by simp [ByteArray.size]
      refine ⟨by omega, by rw [hs]; exact h1, ?_⟩
      rw [hs, h2, ← hp]
      congr 1
      unfold b1
      exact UInt8.ofNat_toNat.symm
    · cases h
theorem textAt_lay (i : Nat) (s : ByteArray) (r : List UInt8) (hi : i < 256) (hs : s.size ≤ 255) : textAt i (b1 i :: b1 s.size :: (s.data.toList ++ r)) = some (s, r) := by
  have hsz : s.data.toList.length = s.size := Array.length_toList
  rw [textAt_cons, b1_toNat _ hi, if_pos rfl, ← hsz, countedR_lay _ _ (by omega)]
  simp
theorem textsR_some : ∀ (k i : Nat) (b r : List UInt8) (l : List ByteArray), textsR i k b = some (l, r) → l.length = k ∧ b = laid i l ++ r := by
  intro k
  induction k with
  | zero =>
    intro i b r l h
    unfold textsR at h
    simp only [Option.some.injEq, Prod.mk.injEq] at h
    obtain ⟨rfl, rfl⟩ := h
    exact ⟨rfl, rfl⟩
  | succ k ih =>
    intro i b r l h
    unfold textsR at h
    split at h
    · cases h
    · next s t hs =>
      obtain ⟨⟨l2, r2⟩, hx, he⟩ := Option.map_eq_some_iff.1 h
      simp only [Prod.mk.injEq] at he
      obtain ⟨rfl, rfl⟩ := he
      obtain ⟨h1, h2⟩ := ih _ _ _ _ hx
      obtain ⟨_, _, h3⟩ := textAt_some hs
      refine ⟨by rw [List.length_cons, h1], ?_⟩
      rw [h3, h2]
      show _ = b1 i :: b1 s.size :: (s.data.toList ++ laid (i + 1) l2) ++ r2
      simp
theorem textsR_lay : ∀ (l : List ByteArray) (i : Nat) (r : List UInt8), i + l.length ≤ 256 → (∀ s ∈ l, s.size ≤ 245) → textsR i l.length (laid i l ++ r) = some (l, r) := by
  intro l
  induction l with
  | nil => intro i r _ _; rfl
  | cons s t ih =>
    intro i r hi hs
    rw [List.length_cons] at hi
    have e : laid i (s :: t) ++ r = b1 i :: b1 s.size :: (s.data.toList ++ (laid (i + 1) t ++ r)) := by
      show b1 i :: b1 s.size :: (s.data.toList ++ laid (i + 1) t) ++ r = _
      simp
    rw [e, List.length_cons]
    unfold textsR
    rw [textAt_lay _ _ _ (by omega) (by have := hs s (by simp); omega)]
    show (textsR (i + 1) t.length (laid (i + 1) t ++ r)).map _ = _
    rw [ih (i + 1) r (by omega) (fun x hx => hs x (by simp [hx]))]
    rfl

theorem text_first {a : Ask} (h : Ak.right a = true) : Ak.text a = b1 a.code.toNat :: (Ak.text a).drop 1 := by
  cases Ak.shape (ak_right h).1 with
  | count c addr n hc h0 h1 n0 n1 => rw [Ak.text_count c hc]; rfl
  | five addr b h0 h1 => rw [Ak.text_five]; rfl
  | six addr x h0 h1 => rw [Ak.text_six]; rfl
  | bits addr l h0 h1 l0 l1 => rw [Ak.text_bits]; rfl
  | words addr l h0 h1 l0 l1 => rw [Ak.text_words]; rfl
  | mask addr x y h0 h1 => rw [Ak.text_mask]; rfl
  | both addr n to l h0 h1 n0 n1 t0 t1 l0 l1 => rw [Ak.text_both]; rfl
  | ident addr n h0 h1 n0 n1 => rw [Ak.text_ident]; rfl
theorem text_echo {a : Ask} (h : Ak.right a = true) (hc : a.code = 5 ∨ a.code = 6 ∨ a.code = 22 ∨ a.code = 15 ∨ a.code = 16) : text a zero = b1 a.code.toNat :: echo a := by
  have h1 := text_first h
  have hb := (ak_right h).2
  unfold text echo
  rw [if_neg (by show ¬ (0 : Int) < 0; omega), if_neg (by omega), if_neg (by omega), hb]
  by_cases h5 : a.code = 5 ∨ a.code = 6 ∨ a.code = 22
  · rw [if_pos h5, if_neg (by omega)]
    exact h1
  · rw [if_neg h5, if_pos (by omega), if_pos (by omega)]
    conv => lhs; rw [h1]
    rfl
theorem answerR_text {a : Ask} {b : List UInt8} {x : Ans} (h : Ak.right a = true) (hb : answerR a b = some (x, [])) (hx : right a x = true) : text a x = b := by
  obtain ⟨hc0, hc1⟩ := code_lt (ak_right h).1
  cases b with
  | nil => cases hb
  | cons c r =>
    have hcl := c.toNat_lt
    have hcb : ∀ n : Nat, c.toNat = n → b1 n = c := fun n hn => by unfold b1; rw [← hn]; exact UInt8.ofNat_toNat
    rw [answerR_cons] at hb
    split at hb
    · next hc =>
      cases r with
      | nil => cases hb
      | cons y r2 =>
        simp only at hb
        split at hb
        · cases hb
        · next hy =>
          simp only [Option.some.injEq, Prod.mk.injEq] at hb
          obtain ⟨rfl, rfl⟩ := hb
          unfold text
          rw [if_pos (by show (0 : Int) < (y.toNat : Int); omega), hcb _ (by omega)]
          show [c, b1 (y.toNat : Int).toNat] = _
          congr 1
          congr 1
          unfold b1
          rw [Int.toNat_natCast]
          exact UInt8.ofNat_toNat
    · split at hb
      · next hcn hc =>
        have hcc : b1 a.code.toNat = c := hcb _ (by omega)
        unfold bodyR at hb
        split at hb
        · next h12 =>
          split at hb
          · cases hb
          · next p r2 hp =>
            split at hb
            · next hi =>
              simp only [Option.some.injEq, Prod.mk.injEq] at hb
              obtain ⟨rfl, rfl⟩ := hb
              obtain ⟨g1, g2⟩ := countedR_some hp
              have g3 : Word.pack (Word.ansBitsI p a.count) = p := by
                unfold Word.ansBitsI
                rw [hi, if_pos rfl]
                unfold Word.isBitsI at hi
                rw [Bool.and_eq_true] at hi
                have := Word.pack_bitsOf p a.count.toNat
                rw [hi.2, beq_iff_eq] at this
                exact this
              unfold text
              rw [if_neg (by show ¬ (0 : Int) < 0; omega), if_pos h12, g2, hcc]
              show c :: b1 (Word.pack (Word.ansBitsI p a.count)).length :: Word.pack (Word.ansBitsI p a.count) = _
              rw [g3, List.append_nil]
            · cases hb
        · split at hb
          · next h12 h34 =>
            split at hb
            · cases hb
            · next p r2 hp =>
              split at hb
              · next hi =>
                simp only [Option.some.injEq, Prod.mk.injEq] at hb
                obtain ⟨rfl, rfl⟩ := hb
                obtain ⟨g1, g2⟩ := countedR_some hp
                have g3 : Word.bytes (Word.ansWords p) = p := by
                  unfold Word.ansWords
                  rw [hi, if_pos rfl]
                  exact bytes_words p hi
                unfold text
                rw [if_neg (by show ¬ (0 : Int) < 0; omega), if_neg h12, if_pos h34, g2, hcc]
                show c :: b1 (Word.bytes (Word.ansWords p)).length :: Word.bytes (Word.ansWords p) = _
                rw [g3, List.append_nil]
              · cases hb
          · split at hb
            · next h12 h34 h43 =>
              obtain ⟨⟨l, z⟩, hl, he⟩ := Option.map_eq_some_iff.1 hb
              simp only [Prod.mk.injEq] at he
              obtain ⟨rfl, rfl⟩ := he
              unfold textsAll at hl
              split at hl
              · cases hl
              · cases hl
              · next n r2 hj =>
                have g1 := justR_some hj
                obtain ⟨g2, g3⟩ := textsR_some _ _ _ _ _ hl
                unfold text
                rw [if_neg (by show ¬ (0 : Int) < 0; omega), if_neg h12, if_neg h34, if_neg (by omega), if_neg (by omega), g1, g3]
                show [43, 14, b1 a.count.toNat, 1, 0, 0, b1 l.length] ++ laid a.addr.toNat l = _
                rw [g2, show b1 n.toNat = n from UInt8.ofNat_toNat, ← hcc, h43]
                simp [ahead, b1]
            · next h12 h34 h43 =>
              obtain ⟨r3, hl, he⟩ := Option.map_eq_some_iff.1 hb
              simp only [Prod.mk.injEq] at he
              obtain ⟨rfl, rfl⟩ := he
              have hcd := (Ak.formed_parts (ak_right h).1).1
              simp only [Ak.codes, List.mem_cons, List.not_mem_nil, or_false] at hcd
              rw [text_echo h (by omega), hcc, justR_some hl, List.append_nil]
      · cases hb
theorem answerR_lay {a : Ask} {x : Ans} (h : Ak.right a = true) (hs : Shape a x) : answerR a (text a x) = some (x, []) := by
  obtain ⟨hc0, hc1⟩ := code_lt (ak_right h).1
  have hcode : ((b1 a.code.toNat).toNat : Int) = a.code := by rw [b1_toNat _ (by omega)]; omega
  have hb : ∀ r, answerR a (b1 a.code.toNat :: r) = bodyR a r := fun r => by
    rw [answerR_cons, hcode, if_neg (by omega), if_pos rfl]
  cases hs with
  | exc n h0 h1 =>
    have e : text a ⟨n, [], [], []⟩ = [b1 (128 + a.code.toNat), b1 n.toNat] := by unfold text; rw [if_pos (by dsimp only; omega)]
    rw [e]
    rw [answerR_cons, b1_toNat _ (by omega), if_pos (by omega)]
    simp only
    rw [b1_toNat _ (by omega), if_neg (by omega), Int.toNat_of_nonneg (by omega)]
  | bits l hc hl h1 =>
    have e : text a ⟨0, l, [], []⟩ = b1 a.code.toNat :: b1 (Word.pack l).length :: Word.pack l := by unfold text; rw [if_neg (by dsimp only; omega), if_pos hc]
    have hp := Word.pack_length l
    have hcr := countedR_lay (Word.pack l) [] (by omega)
    rw [List.append_nil] at hcr
    have hi : Word.isBitsI (Word.pack l) a.count = true := by
      rw [← hl, isBitsI_nat, Word.isBits_pack]
    rw [e, hb]
    unfold bodyR
    rw [if_pos hc, hcr]
    simp only
    rw [if_pos hi]
    unfold Word.ansBitsI
    rw [if_pos hi, ← hl, Int.toNat_natCast, Word.bitsOf_pack]
  | words l hc hl h1 =>
    have e : text a ⟨0, [], l, []⟩ = b1 a.code.toNat :: b1 (Word.bytes l).length :: Word.bytes l := by unfold text; rw [if_neg (by dsimp only; omega), if_neg (by omega), if_pos hc]
    have hp := Word.bytes_length l
    have hcr := countedR_lay (Word.bytes l) [] (by omega)
    rw [List.append_nil] at hcr
    rw [e, hb]
    unfold bodyR
    rw [if_neg (by omega), if_pos hc, hcr]
    simp only
    rw [if_pos (Word.isWords_bytes l), Word.ans_bytes]
  | back hc =>
    have e := text_echo h hc
    have hj := justR_lay (echo a) []
    rw [List.append_nil] at hj
    show answerR a (text a zero) = some (zero, [])
    rw [e, hb]
    unfold bodyR
    rw [if_neg (by omega), if_neg (by omega), if_neg (by omega), hj]
    rfl
  | texts l hc h0 hs h1 h2 =>
    have ha0 : 0 ≤ a.addr := (Ak.formed_parts (ak_right h).1).2.2.2.2.2.2.1
    have e : text a ⟨0, [], [], l⟩ = b1 a.code.toNat :: (ahead a ++ (b1 l.length :: laid a.addr.toNat l)) := by
      unfold text
      rw [if_neg (by dsimp only; omega), if_neg (by omega), if_neg (by omega), if_neg (by omega), if_neg (by omega), hc]
      simp [ahead, b1]
    have hl1 : l.length ≤ 127 := by
      have h3 := laid_length l a.addr.toNat 7 h1
      have h4 : ∀ (l : List ByteArray) (i : Nat), 2 * l.length ≤ (laid i l).length := by
        intro l
        induction l with
        | nil => intro i; simp
        | cons s t ih =>
          intro i
          have := ih (i + 1)
          show _ ≤ (b1 i :: b1 s.size :: (s.data.toList ++ laid (i + 1) t)).length
          simp only [List.length_cons, List.length_append]
          omega
      have h5 := h4 l a.addr.toNat
      unfold long at h1
      omega
    have hr := textsR_lay l a.addr.toNat [] (by omega) hs
    rw [List.append_nil] at hr
    rw [e, hb]
    unfold bodyR
    rw [if_neg (by omega), if_neg (by omega), if_pos hc]
    unfold textsAll
    rw [justR_lay]
    simp only
    rw [b1_toNat _ (by omega), hr]
    rfl
theorem readR_eq {a : Ask} (h : Ak.right a = true) (b : List UInt8) : readR a b = read a b := by
  by_cases hr : (read a b).2 = 0
  · rcases read_back a b with ⟨_, h1, h2⟩ | ⟨h1, _⟩
    · have h3 := answerR_lay h (shape h1)
      rw [h2] at h3
      unfold readR
      rw [h3]
      show (if ([] : List UInt8) = [] ∧ right a (read a b).1 = true then ((read a b).1, 0) else (zero, 2)) = _
      rw [if_pos (show ([] : List UInt8) = [] ∧ right a (read a b).1 = true from ⟨rfl, h1⟩)]
      exact Prod.ext rfl hr.symm
    · exact absurd hr h1
  · have hz : read a b = (zero, 2) := by
      have h0 := hr
      unfold read at h0 ⊢
      rw [if_neg (by rw [h]; simp)] at h0 ⊢
      split at h0
      · next g => rw [if_pos g]
      · exact absurd rfl h0
    rw [hz]
    unfold readR
    split
    · rfl
    · next x r hx =>
      split
      · next g =>
        obtain ⟨rfl, g2⟩ := g
        have h1 := answerR_text h hx g2
        have h2 := read_text g2
        rw [h1, hz] at h2
        cases h2
      · rfl
end An

end Go.Proofs.YtlgmjnjhdamknaaGreat
