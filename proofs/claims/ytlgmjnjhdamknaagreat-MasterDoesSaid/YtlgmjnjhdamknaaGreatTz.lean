
/- A part of the proof of the law MasterDoes. -/
import Derived.Test.YtlgmjnjhdamknaaGreatMem
import Derived.Test.YtlgmjnjhdamknaaGreatTy
import Derived.Test.YtlgmjnjhdamknaaGreatAr
import Derived.Test.YtlgmjnjhdamknaaGreatBy7
import Derived.Test.YtlgmjnjhdamknaaGreatGt7
import Derived.Test.YtlgmjnjhdamknaaGreatRc7
namespace Go.Proofs.YtlgmjnjhdamknaaGreat
open Go.RowKit

theorem rtext7_any (a : Ask) (x : Ans) (h k hx kx tx : Hd) (w : World) (ha : AskIn w a h k) (hi : AnsIn w x hx kx tx) (hx' : An.right a x = true) :
    Calls Tryz.prog 62 #[askV a h k, ansV x hx kx tx] w (AnTextPost w (An.text a x)) := by
  have hr := (An.right_parts hx').1
  have hs := An.shape hx'
  have hsh := Ak.shape (An.ak_right hr).1
  obtain ⟨hc0, hc1⟩ := An.code_lt (An.ak_right hr).1
  cases hs with
  | exc n h0 h1 =>
    have e : An.text a ⟨n, [], [], []⟩ = [An.b1 (128 + a.code.toNat), An.b1 n.toNat] := by unfold An.text; rw [if_pos (by dsimp only; omega)]
    rw [e]
    exact rtextE_any a h k n hx kx tx w hc0 hc1 h0 h1
  | bits l hc hl h1 =>
    have e : An.text a ⟨0, l, [], []⟩ = An.b1 a.code.toNat :: An.b1 (Word.pack l).length :: Word.pack l := by unfold An.text; rw [if_neg (by dsimp only; omega), if_pos hc]
    rw [e]
    obtain ⟨code, addr, count, to_, words, bits, and_, or_⟩ := a
    rcases hc with hc | hc
    · obtain rfl : code = 1 := hc
      exact rtext7_1 addr count to_ words bits and_ or_ h k ⟨0, l, [], []⟩ hx kx tx w ha hi rfl h1
    · obtain rfl : code = 2 := hc
      exact rtext7_2 addr count to_ words bits and_ or_ h k ⟨0, l, [], []⟩ hx kx tx w ha hi rfl h1
  | words l hc hl h1 =>
    have e : An.text a ⟨0, [], l, []⟩ = An.b1 a.code.toNat :: An.b1 (Word.bytes l).length :: Word.bytes l := by unfold An.text; rw [if_neg (by dsimp only; omega), if_neg (by omega), if_pos hc]
    rw [e]
    obtain ⟨code, addr, count, to_, words, bits, and_, or_⟩ := a
    rcases hc with hc | hc | hc
    · obtain rfl : code = 3 := hc
      exact rtext7_3 addr count to_ words bits and_ or_ h k ⟨0, [], l, []⟩ hx kx tx w ha hi rfl h1
    · obtain rfl : code = 4 := hc
      exact rtext7_4 addr count to_ words bits and_ or_ h k ⟨0, [], l, []⟩ hx kx tx w ha hi rfl h1
    · obtain rfl : code = 23 := hc
      exact rtext7_23 addr count to_ words bits and_ or_ h k ⟨0, [], l, []⟩ hx kx tx w ha hi rfl h1
  | back hc =>
    have hl5 : 5 ≤ (Ak.bytes a).length := by rw [(An.ak_right hr).2]; exact An.text_back_len hr hc
    have e1 : (a.code = 5 ∨ a.code = 6 ∨ a.code = 22) → An.text a ⟨0, [], [], []⟩ = Ak.bytes a := fun h => by unfold An.text; rw [if_neg (by dsimp only; omega), if_neg (by omega), if_neg (by omega), if_pos h]
    have e2 : (a.code = 15 ∨ a.code = 16) → An.text a ⟨0, [], [], []⟩ = (Ak.bytes a).take 5 := fun h => by unfold An.text; rw [if_neg (by dsimp only; omega), if_neg (by omega), if_neg (by omega), if_neg (by omega), if_pos h]
    obtain ⟨code, addr, count, to_, words, bits, and_, or_⟩ := a
    rcases hc with hc | hc | hc | hc | hc
    · obtain rfl : code = 5 := hc
      rw [e1 (by simp)]
      exact rtext7_5 5 (.inl rfl) addr count to_ words bits and_ or_ h k ⟨0, [], [], []⟩ hx kx tx w ha hi rfl
    · obtain rfl : code = 6 := hc
      rw [e1 (by simp)]
      exact rtext7_5 6 (.inr (.inl rfl)) addr count to_ words bits and_ or_ h k ⟨0, [], [], []⟩ hx kx tx w ha hi rfl
    · obtain rfl : code = 22 := hc
      rw [e1 (by simp)]
      exact rtext7_5 22 (.inr (.inr rfl)) addr count to_ words bits and_ or_ h k ⟨0, [], [], []⟩ hx kx tx w ha hi rfl
    · obtain rfl : code = 15 := hc
      rw [e2 (by simp)]
      exact rtext7_15 addr count to_ words bits and_ or_ h k ⟨0, [], [], []⟩ hx kx tx w ha hi rfl hl5
    · obtain rfl : code = 16 := hc
      rw [e2 (by simp)]
      exact rtext7_16 addr count to_ words bits and_ or_ h k ⟨0, [], [], []⟩ hx kx tx w ha hi rfl hl5
  | texts l hc h1 hsz h2 h3 =>
    have e : An.text a ⟨0, [], [], l⟩ = [43, 14, An.b1 a.count.toNat, 1, 0, 0, An.b1 l.length] ++ An.laid a.addr.toNat l := by unfold An.text; rw [if_neg (by dsimp only; omega), if_neg (by omega), if_neg (by omega), if_neg (by omega), if_neg (by omega)]
    rw [e]
    cases hsh with
    | ident addr n g0 g1 n0 n1 =>
      obtain ⟨an, rfl⟩ := Int.eq_ofNat_of_zero_le g0
      obtain ⟨cn, rfl⟩ := Int.eq_ofNat_of_zero_le (show 0 ≤ n by omega)
      exact rtext7_43 an cn 0 [] [] 0 0 h k ⟨0, [], [], l⟩ hx kx tx w ha hi rfl (by omega) h2 hsz (by dsimp only at h3 ⊢; omega)
    | count c addr n hc' g0 g1 n0 n1 => dsimp only at hc; omega
    | _ => dsimp only at hc; omega


end Go.Proofs.YtlgmjnjhdamknaaGreat

namespace Go.Proofs.YtlgmjnjhdamknaaGreat
open Go.RowKit

theorem rguess7_any (a : Ask) (h k : Hd) (B : Option Addr) (n cc : Nat) (b : List UInt8) (hn : b.length = n) (hnc : n ≤ cc) (hcm : cc ≤ maxLen) (hm : n ≤ 600) (hk : Ak.right a = true) (w : World) (hb : Lies u8v w B b) :
    Calls Tryz.prog 60 #[askV a h k, .slice B n cc] w (GPost7 w (An.guess a b)) := by
  obtain ⟨hc0, hc1⟩ := An.code_lt (An.ak_right hk).1
  obtain ⟨hcd, hfc, -⟩ := Ak.formed_parts (An.ak_right hk).1
  simp only [Ak.codes, List.mem_cons, List.not_mem_nil, or_false] at hcd
  obtain ⟨code, addr, count, to_, words, bits, and_, or_⟩ := a
  by_cases he : n = 2 ∧ ((b.getD 0 0).toNat : Int) = 128 + code
  · have e : An.guess ⟨code, addr, count, to_, words, bits, and_, or_⟩ b = ⟨((b.getD 1 0).toNat : Int), [], [], []⟩ := by unfold An.guess; rw [if_pos (by rw [hn]; exact he)]; rfl
    rw [e]
    exact rguess7_E code addr count to_ words bits and_ or_ h k B n cc b hn hcm hm hc0 hc1 he w hb
  · have e : An.guess ⟨code, addr, count, to_, words, bits, and_, or_⟩ b = if code = 1 ∨ code = 2 then { An.zero with bits := Word.bitsOf (b.drop 2) (min count.toNat (8 * (b.drop 2).length)) } else if code = 3 ∨ code = 4 ∨ code = 23 then { An.zero with words := Word.ansWords (b.drop 2) } else if code = 43 then { An.zero with texts := An.cut (b.drop 7) } else An.zero := by unfold An.guess; rw [if_neg (by rw [hn]; exact he)]
    rw [e]
    rcases hcd with hc | hc | hc | hc | hc | hc | hc | hc | hc | hc | hc
    · obtain rfl : code = 1 := hc
      have hm := Ak.fits_most (m := 2000) hfc (by decide)
      dsimp only at hm
      obtain ⟨M, rfl⟩ := Int.eq_ofNat_of_zero_le (show 0 ≤ count by omega)
      exact rguess7_1 addr to_ M words bits and_ or_ h k B n cc b hn hnc hcm (by omega) (by omega) he w hb
    · obtain rfl : code = 2 := hc
      have hm := Ak.fits_most (m := 2000) hfc (by decide)
      dsimp only at hm
      obtain ⟨M, rfl⟩ := Int.eq_ofNat_of_zero_le (show 0 ≤ count by omega)
      exact rguess7_2 addr to_ M words bits and_ or_ h k B n cc b hn hnc hcm (by omega) (by omega) he w hb
    · obtain rfl : code = 3 := hc
      exact rguess7_3 3 (.inl rfl) addr count to_ words bits and_ or_ h k B n cc b hn hnc hcm hm he w hb
    · obtain rfl : code = 4 := hc
      exact rguess7_3 4 (.inr (.inl rfl)) addr count to_ words bits and_ or_ h k B n cc b hn hnc hcm hm he w hb
    · obtain rfl : code = 5 := hc
      exact rguess7_5 5 (.inl rfl) addr count to_ words bits and_ or_ h k B n cc b hn hnc hcm hm he w hb
    · obtain rfl : code = 6 := hc
      exact rguess7_5 6 (.inr (.inl rfl)) addr count to_ words bits and_ or_ h k B n cc b hn hnc hcm hm he w hb
    · obtain rfl : code = 15 := hc
      exact rguess7_5 15 (.inr (.inr (.inl rfl))) addr count to_ words bits and_ or_ h k B n cc b hn hnc hcm hm he w hb
    · obtain rfl : code = 16 := hc
      exact rguess7_5 16 (.inr (.inr (.inr (.inl rfl)))) addr count to_ words bits and_ or_ h k B n cc b hn hnc hcm hm he w hb
    · obtain rfl : code = 22 := hc
      exact rguess7_5 22 (.inr (.inr (.inr (.inr (rfl))))) addr count to_ words bits and_ or_ h k B n cc b hn hnc hcm hm he w hb
    · obtain rfl : code = 23 := hc
      exact rguess7_3 23 (.inr (.inr (rfl))) addr count to_ words bits and_ or_ h k B n cc b hn hnc hcm hm he w hb
    · obtain rfl : code = 43 := hc
      exact rguess7_43 addr count to_ words bits and_ or_ h k B n cc b hn hnc hcm hm he w hb

set_option maxRecDepth 100000 in
set_option maxHeartbeats 1000000 in
theorem rread7_any (a : Ask) (h k : Hd) (B : Option Addr) (n c : Nat) (b : List UInt8) (hn : b.length = n) (hnc : n ≤ c) (hcm : c ≤ maxLen) (hm : n ≤ 600) (w : World) (ha : AskIn w a h k) (hb : Lies u8v w B b) :
    Calls Tryz.prog 34 #[askV a h k, .slice B n c] w (ARPost w (An.read a b)) := by
  obtain ⟨code, addr, count, to_, words, bits, and_, or_⟩ := a
  obtain ⟨hra, hrx, hb0, hlt1, hlt0⟩ := two_new7 w #[.int .i64 code, .int .i64 addr, .int .i64 count, .int .i64 to_, .slice h.1 h.2.1 h.2.2, .slice k.1 k.2.1 k.2.2, u16v and_, u16v or_] #[.int .i64 0, .slice none 0 0, .slice none 0 0, .slice none 0 0] 58 51
  have HR := qh (rright_any _ h k _ (ha.below hb0))
  have HG := qh (fun V hV hk => rguess7_any ⟨code, addr, count, to_, words, bits, and_, or_⟩ h k B n c b hn hnc hcm hm hk V ((hb.below hb0 (zq _)).below hV (zq _)))
  have HAI := qh (fun V hV => (ha.below hb0).below (w' := V) hV)
  have HLB := qh (fun V hV => (hb.below hb0 (zq _)).below (w' := V) hV (zq _))
  have HNN := qh hn
  rw [askV_eq] at HR HG
  rw [askV_eq]
  obtain ⟨O, hO⟩ : ∃ O, An.read ⟨code, addr, count, to_, words, bits, and_, or_⟩ b = O := ⟨_, rfl⟩
  rw [hO]
  clear ha hb hn hnc hcm
  go_enter Tryz.func34, Tryz.ntmps34
  obtain ⟨r0, r1, r2, r3, r4, r5, r6, r7⟩ := row_eight hra
  cases hk : Ak.right ⟨code, addr, count, to_, words, bits, and_, or_⟩ with
  | false =>
    have HO : Hid (O = (An.zero, 1)) := qh (by rw [← hO]; unfold An.read; rw [hk]; rfl)
    rw [hk] at HR
    clear HG hO hk
    go_wp2_with fail
    refine HR.out.mono ?_
    rintro e w2 ⟨rfl, hb2⟩
    have t2 := row_later hrx hb2
    have hbw := hb0.trans (hb2.mono hb0.size)
    obtain ⟨z0, z1, z2, z3⟩ := row_quad t2
    obtain ⟨y0, y1, y2, y3⟩ := row_quad_free t2
    have hltf : w.heap.size + 1 < w2.heap.size := row_lt t2
    have HS4 := qh (stored_four t2 (.int .i64 0) (.slice none 0 0) (.slice none 0 0) (.slice none 0 0))
    have HE : Hid (ARPost w O (.returned (.tuple #[ansV An.zero (none, 0, 0) (none, 0, 0) (none, 0, 0), .int .i64 1])) _) := qh (by
      rw [HO.out]
      exact ⟨(none, 0, 0), (none, 0, 0), (none, 0, 0), rfl, (AnsIn.zero w2).four t2 (.int .i64 0) (.slice none 0 0) (.slice none 0 0) (.slice none 0 0), (but_four (g := w.heap.size + 1) (But.of_below hbw (zq _) []) (.inr (by omega)) (.int .i64 0) (.slice none 0 0) (.slice none 0 0) (.slice none 0 0)).below (by simp) (zq _)⟩)
    go_wp2_with fail
    obtain ⟨s0, s1, s2, s3⟩ := row_quad HS4.out
    refine bodyPost_ret_by (v := .tuple #[ansV An.zero (none, 0, 0) (none, 0, 0) (none, 0, 0), .int .i64 1]) (by simp [ansV, An.zero, results, Tryz.f34, go_sem, s0, s1, s2, s3]) rfl ?_
    exact HE.out

  | true =>
    have hO2 : O = if An.right ⟨code, addr, count, to_, words, bits, and_, or_⟩ (An.guess ⟨code, addr, count, to_, words, bits, and_, or_⟩ b) = false ∨ An.text ⟨code, addr, count, to_, words, bits, and_, or_⟩ (An.guess ⟨code, addr, count, to_, words, bits, and_, or_⟩ b) ≠ b then (An.zero, 2) else (An.guess ⟨code, addr, count, to_, words, bits, and_, or_⟩ b, 0) := by rw [← hO]; unfold An.read; rw [if_neg (by rw [hk]; simp)]
    rw [hk] at HR
    have HG2 := qh (fun V hV => HG.out V hV hk)
    have HRG := qh (fun V x h' k' t' (hV : Below (((w.alloc (.cells #[.int .i64 code, .int .i64 addr, .int .i64 count, .int .i64 to_, .slice h.1 h.2.1 h.2.2, .slice k.1 k.2.1 k.2.2, u16v and_, u16v or_] 58)).alloc (.cells #[.int .i64 0, .slice none 0 0, .slice none 0 0, .slice none 0 0] 51))).heap.size ((w.alloc (.cells #[.int .i64 code, .int .i64 addr, .int .i64 count, .int .i64 to_, .slice h.1 h.2.1 h.2.2, .slice k.1 k.2.1 k.2.2, u16v and_, u16v or_] 58)).alloc (.cells #[.int .i64 0, .slice none 0 0, .slice none 0 0, .slice none 0 0] 51)) V) (hx : AnsIn V x h' k' t') => rright7_any ⟨code, addr, count, to_, words, bits, and_, or_⟩ h k x h' k' t' V (HAI.out V hV) hx)
    have HTX := qh (fun V x h' k' t' (hV : Below (((w.alloc (.cells #[.int .i64 code, .int .i64 addr, .int .i64 count, .int .i64 to_, .slice h.1 h.2.1 h.2.2, .slice k.1 k.2.1 k.2.2, u16v and_, u16v or_] 58)).alloc (.cells #[.int .i64 0, .slice none 0 0, .slice none 0 0, .slice none 0 0] 51))).heap.size ((w.alloc (.cells #[.int .i64 code, .int .i64 addr, .int .i64 count, .int .i64 to_, .slice h.1 h.2.1 h.2.2, .slice k.1 k.2.1 k.2.2, u16v and_, u16v or_] 58)).alloc (.cells #[.int .i64 0, .slice none 0 0, .slice none 0 0, .slice none 0 0] 51)) V) (hx : AnsIn V x h' k' t') hr => rtext7_any ⟨code, addr, count, to_, words, bits, and_, or_⟩ x h k h' k' t' V (HAI.out V hV) hx hr)
    have HMX : Hid (∀ x, An.right ⟨code, addr, count, to_, words, bits, and_, or_⟩ x = true → (An.text ⟨code, addr, count, to_, words, bits, and_, or_⟩ x).length ≤ 253) := qh (fun x hx => (An.guess_text (An.right_parts hx).1 (An.shape hx)).2.2)
    obtain ⟨⟨xe, xb, xw, xt⟩, hx⟩ : ∃ x, An.guess ⟨code, addr, count, to_, words, bits, and_, or_⟩ b = x := ⟨_, rfl⟩
    rw [hx] at HG2 hO2
    have HO2 := qh hO2
    clear HG hO hk hx HAI hO2
    go_wp2_with fail
    refine HR.out.mono ?_
    rintro e w2 ⟨rfl, hb2⟩
    obtain ⟨r0, r1, r2, r3, r4, r5, r6, r7⟩ := row_eight (row_later hra hb2)
    have hlt0 : w.heap.size < w2.heap.size := row_lt (row_later hra hb2)
    go_wp2_with fail
    refine (HG2.out _ hb2).mono ?_
    rintro e w3 ⟨⟨hA, hN, hC⟩, ⟨kA, kN, kC⟩, ⟨tA, tN, tC⟩, rfl, hx3, hb3⟩
    rw [ansV_eq]
    dsimp only
    have hb23 := hb2.trans (hb3.mono hb2.size)
    obtain ⟨g, hg⟩ : ∃ g, w3.heap.size = g := ⟨_, rfl⟩
    have hba : Below w3.heap.size w3 (w3.alloc (.cells #[.int .i64 xe, .slice hA hN hC, .slice kA kN kC, .slice tA tN tC] 51)) := (Below.refl _ _).alloc (zq _) _
    have hrg := row_at w3 #[.int .i64 xe, .slice hA hN hC, .slice kA kN kC, .slice tA tN tC] 51 g hg
    have hbg : Below (((w.alloc (.cells #[.int .i64 code, .int .i64 addr, .int .i64 count, .int .i64 to_, .slice h.1 h.2.1 h.2.2, .slice k.1 k.2.1 k.2.2, u16v and_, u16v or_] 58)).alloc (.cells #[.int .i64 0, .slice none 0 0, .slice none 0 0, .slice none 0 0] 51))).heap.size ((w.alloc (.cells #[.int .i64 code, .int .i64 addr, .int .i64 count, .int .i64 to_, .slice h.1 h.2.1 h.2.2, .slice k.1 k.2.1 k.2.2, u16v and_, u16v or_] 58)).alloc (.cells #[.int .i64 0, .slice none 0 0, .slice none 0 0, .slice none 0 0] 51)) (w3.alloc (.cells #[.int .i64 xe, .slice hA hN hC, .slice kA kN kC, .slice tA tN tC] 51)) := hb23.trans (hba.mono hb23.size)
    have hxg := hx3.below hba
    have hgw : w.heap.size + 1 < g := by have h1 := row_lt (row_later hrx hb23); omega
    have hrg1 := row_later hra hbg
    have hrg2 := row_later hrx hbg
    have hsg : (w3.alloc (.cells #[.int .i64 xe, .slice hA hN hC, .slice kA kN kC, .slice tA tN tC] 51)).heap.size = g + 1 := by simp [hg]
    generalize hW4 : w3.alloc (.cells #[.int .i64 xe, .slice hA hN hC, .slice kA kN kC, .slice tA tN tC] 51) = w4 at *
    have HPOST := HRG.out w4 _ _ _ _ hbg hxg
    rw [askV_eq, ansV_eq] at HPOST
    dsimp only at HPOST
    have HRP := qh HPOST
    clear HPOST hba hx3 hb3 hb2 r0 r1 r2 r3 r4 r5 r6 r7
    obtain ⟨r0, r1, r2, r3, r4, r5, r6, r7⟩ := row_eight hrg1
    obtain ⟨x0, x1, x2, x3⟩ := row_quad hrg
    have hlt4 : w.heap.size < w4.heap.size := row_lt hrg1
    have hlt5 : g < w4.heap.size := by omega
    cases hr : An.right ⟨code, addr, count, to_, words, bits, and_, or_⟩ ⟨xe, xb, xw, xt⟩ with
    | false =>
      have HO : Hid (O = (An.zero, 2)) := qh (by rw [HO2.out, if_pos (.inl hr)])
      rw [hr] at HRP
      clear HO2 hr HRG HTX HMX
      go_wp2_with fail
      refine HRP.out.mono ?_
      rintro e w5 ⟨rfl, hb5⟩
      have t2 := row_later hrg2 hb5
      have hbw : Below w.heap.size w w5 := hb0.trans ((hbg.trans (hb5.mono hbg.size)).mono hb0.size)
      obtain ⟨z0, z1, z2, z3⟩ := row_quad t2
      obtain ⟨y0, y1, y2, y3⟩ := row_quad_free t2
      have hltf : w.heap.size + 1 < w5.heap.size := row_lt t2
      have HS4 := qh (stored_four t2 (.int .i64 0) (.slice none 0 0) (.slice none 0 0) (.slice none 0 0))
      have HE : Hid (ARPost w O (.returned (.tuple #[ansV An.zero (none, 0, 0) (none, 0, 0) (none, 0, 0), .int .i64 2])) _) := qh (by
        rw [HO.out]
        exact ⟨(none, 0, 0), (none, 0, 0), (none, 0, 0), rfl, (AnsIn.zero w5).four t2 (.int .i64 0) (.slice none 0 0) (.slice none 0 0) (.slice none 0 0), (but_four (g := w.heap.size + 1) (But.of_below hbw (zq _) []) (.inr (by omega)) (.int .i64 0) (.slice none 0 0) (.slice none 0 0) (.slice none 0 0)).below (by simp) (zq _)⟩)
      go_wp2_with fail
      obtain ⟨s0, s1, s2, s3⟩ := row_quad HS4.out
      refine bodyPost_ret_by (v := .tuple #[ansV An.zero (none, 0, 0) (none, 0, 0) (none, 0, 0), .int .i64 2]) (by simp [ansV, An.zero, results, Tryz.f34, go_sem, s0, s1, s2, s3]) rfl ?_
      exact HE.out

    | true =>
      have HRT := qh hr
      rw [hr] at HRP
      clear hr HRG
      go_wp2_with fail
      refine HRP.out.mono ?_
      rintro e w5 ⟨rfl, hb5⟩
      have hb05 := hbg.trans (hb5.mono hbg.size)
      have hq1 := row_later hrg1 hb5
      have hq2 := row_later hrg2 hb5
      have hq3 := row_later hrg hb5
      have hx5 := hxg.below hb5
      have hlb5 := HLB.out w5 hb05
      have HT5 := HTX.out w5 _ _ _ _ hb05 hx5 HRT.out
      rw [askV_eq, ansV_eq] at HT5
      dsimp only at HT5
      have HT := qh HT5
      have HM := qh (HMX.out _ HRT.out)
      clear HT5 HTX HMX hb5 hrg1 hrg2 hrg hxg r0 r1 r2 r3 r4 r5 r6 r7 x0 x1 x2 x3 hlt4 hlt5
      obtain ⟨r0, r1, r2, r3, r4, r5, r6, r7⟩ := row_eight hq1
      obtain ⟨x0, x1, x2, x3⟩ := row_quad hq3
      have hlt4 : w.heap.size < w5.heap.size := row_lt hq1
      have hlt5 : g < w5.heap.size := row_lt hq3
      obtain ⟨tx, htx⟩ : ∃ tx, An.text ⟨code, addr, count, to_, words, bits, and_, or_⟩ ⟨xe, xb, xw, xt⟩ = tx := ⟨_, rfl⟩
      rw [htx] at HT HM HO2
      clear htx
      go_wp2_with fail
      refine HT.out.mono ?_
      rintro e w6 ⟨A6, n6, c6, rfl, g1, g2, g3, g4, hb6⟩
      have hs2 := row_later hq2 hb6
      have hs3 := row_later hq3 hb6
      have hx6 := hx5.below hb6
      have hlb6 := hlb5.below hb6 (zq _)
      have hbw6 : Below w.heap.size w w6 := hb0.trans ((hb05.trans (hb6.mono hb05.size)).mono hb0.size)
      have HSA := qh (rsame8_any A6 B n6 n c6 c tx b g1 HNN.out (by rw [← g1]; exact Nat.le_trans HM.out (by unfold maxLen; omega)) w6 g4 hlb6)
      clear hq1 hq2 hq3 hx5 hlb5 hb6 hb05 g1 g2 g3 g4 hlb6 r0 r1 r2 r3 r4 r5 r6 r7 x0 x1 x2 x3
      by_cases heq : tx = b
      · have HO : Hid (O = (⟨xe, xb, xw, xt⟩, 0)) := qh (by rw [HO2.out, if_neg (by rintro (h | h); exact absurd h (by rw [HRT.out]; simp); exact h heq)])
        have hbq : (tx == b) = true := by rw [beq_iff_eq]; exact heq
        rw [hbq] at HSA
        clear HO2 heq hbq
        go_wp2_with fail
        refine HSA.out.mono ?_
        rintro e w7 ⟨rfl, q, rfl⟩
        have t2 : (w6.drewN q).heap[w.heap.size + 1]? = _ := hs2
        have t3 : (w6.drewN q).heap[g]? = _ := hs3
        have tx7 : AnsIn (w6.drewN q) ⟨xe, xb, xw, xt⟩ (hA, hN, hC) (kA, kN, kC) (tA, tN, tC) := hx6.below (drewN_below (Below.refl _ _) q)
        have hbw : Below w.heap.size w (w6.drewN q) := drewN_below hbw6 q
        clear hs2 hs3 hx6 hbw6
        generalize w6.drewN q = w8 at *
        obtain ⟨x0, x1, x2, x3⟩ := row_quad t3
        have hlt8 : g < w8.heap.size := row_lt t3
        obtain ⟨z0, z1, z2, z3⟩ := row_quad t2
        obtain ⟨y0, y1, y2, y3⟩ := row_quad_free t2
        have hltf : w.heap.size + 1 < w8.heap.size := row_lt t2
        have HS4 := qh (stored_four t2 (.int .i64 xe) (.slice hA hN hC) (.slice kA kN kC) (.slice tA tN tC))
        have HE : Hid (ARPost w O (.returned (.tuple #[ansV ⟨xe, xb, xw, xt⟩ (hA, hN, hC) (kA, kN, kC) (tA, tN, tC), .int .i64 0])) _) := qh (by
          rw [HO.out]
          exact ⟨(hA, hN, hC), (kA, kN, kC), (tA, tN, tC), rfl, (tx7).four t2 (.int .i64 xe) (.slice hA hN hC) (.slice kA kN kC) (.slice tA tN tC), (but_four (g := w.heap.size + 1) (But.of_below hbw (zq _) []) (.inr (by omega)) (.int .i64 xe) (.slice hA hN hC) (.slice kA kN kC) (.slice tA tN tC)).below (by simp) (zq _)⟩)
        go_wp2_with fail
        obtain ⟨s0, s1, s2, s3⟩ := row_quad HS4.out
        refine bodyPost_ret_by (v := .tuple #[ansV ⟨xe, xb, xw, xt⟩ (hA, hN, hC) (kA, kN, kC) (tA, tN, tC), .int .i64 0]) (by simp [ansV, results, Tryz.f34, go_sem, s0, s1, s2, s3]) rfl ?_
        exact HE.out

      · have HO : Hid (O = (An.zero, 2)) := qh (by rw [HO2.out, if_pos (.inr heq)])
        have hbq : (tx == b) = false := by rw [beq_eq_false_iff_ne]; exact heq
        rw [hbq] at HSA
        clear HO2 heq hbq
        go_wp2_with fail
        refine HSA.out.mono ?_
        rintro e w7 ⟨rfl, q, rfl⟩
        have t2 : (w6.drewN q).heap[w.heap.size + 1]? = _ := hs2
        have hbw : Below w.heap.size w (w6.drewN q) := drewN_below hbw6 q
        clear hs2 hs3 hx6 hbw6
        generalize w6.drewN q = w8 at *
        obtain ⟨z0, z1, z2, z3⟩ := row_quad t2
        obtain ⟨y0, y1, y2, y3⟩ := row_quad_free t2
        have hltf : w.heap.size + 1 < w8.heap.size := row_lt t2
        have HS4 := qh (stored_four t2 (.int .i64 0) (.slice none 0 0) (.slice none 0 0) (.slice none 0 0))
        have HE : Hid (ARPost w O (.returned (.tuple #[ansV An.zero (none, 0, 0) (none, 0, 0) (none, 0, 0), .int .i64 2])) _) := qh (by
          rw [HO.out]
          exact ⟨(none, 0, 0), (none, 0, 0), (none, 0, 0), rfl, (AnsIn.zero w8).four t2 (.int .i64 0) (.slice none 0 0) (.slice none 0 0) (.slice none 0 0), (but_four (g := w.heap.size + 1) (But.of_below hbw (zq _) []) (.inr (by omega)) (.int .i64 0) (.slice none 0 0) (.slice none 0 0) (.slice none 0 0)).below (by simp) (zq _)⟩)
        go_wp2_with fail
        obtain ⟨s0, s1, s2, s3⟩ := row_quad HS4.out
        refine bodyPost_ret_by (v := .tuple #[ansV An.zero (none, 0, 0) (none, 0, 0) (none, 0, 0), .int .i64 2]) (by simp [ansV, An.zero, results, Tryz.f34, go_sem, s0, s1, s2, s3]) rfl ?_
        exact HE.out


end Go.Proofs.YtlgmjnjhdamknaaGreat
