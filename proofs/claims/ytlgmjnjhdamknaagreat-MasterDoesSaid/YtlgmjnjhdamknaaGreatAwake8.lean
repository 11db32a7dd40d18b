
/- A part of the proof of the law MasterDoes. -/
import Derived.Test.YtlgmjnjhdamknaaGreatMem
import Derived.Test.YtlgmjnjhdamknaaGreatTk8
import Derived.Deep.Cut
namespace Go.Proofs.YtlgmjnjhdamknaaGreat
open Go.RowKit

theorem start_lit {S : Nat → Prop} {q D : Nat} {c : Cfg} {m m' : Mst} {r : Nat} (w : World) (hM : LMAt w S q D c m) (hs : Ms.start m Aw.a0 = (m', r)) :
    Calls Tryz.prog 16 #[.pointer (some ⟨q, 0, none⟩), .agg #[.int .i64 3, .int .i64 0, .int .i64 1, .int .i64 0, .slice none 0 0, .slice none 0 0, .int .u16 0, .int .u16 0]] w fun e w' => e = .returned (.int .i64 (r : Int)) ∧ LMAt w' S q D c m' ∧ But [q] w w' := by
  have := start8_any S q D c m Aw.a0 (none, 0, 0) (none, 0, 0) w hM ⟨rfl, zq _, Nat.zero_le _, Lies.nil _ _, rfl, zq _, Nat.zero_le _, Lies.nil _ _⟩
  rw [hs] at this
  exact this
theorem but_up {w w0 w' : World} {q : Nat} (hb : Below w0.heap.size w0 w) (h : But [q] w w') (hq : w0.heap.size ≤ q) : Below w0.heap.size w0 w' :=
  hb.trans (h.below (fun _ hk => (List.mem_singleton.1 hk) ▸ hq) hb.size)
theorem but_up2 {w w0 w' : World} {q D : Nat} (hb : Below w0.heap.size w0 w) (h : But [q, D] w w') (hq : w0.heap.size ≤ q) (hD : w0.heap.size ≤ D) : Below w0.heap.size w0 w' :=
  hb.trans (h.below (fun k hk => by
    rcases List.mem_cons.1 hk with h | h
    · rw [h]; exact hq
    · rw [List.mem_singleton.1 h]; exact hD) hb.size)
set_option maxRecDepth 100000 in
set_option maxHeartbeats 4000000 in
theorem awake8_any (w : World) :
    Calls Tryz.prog 6 #[] w fun e w' => e = .returned (.bool true) ∧ Below w.heap.size w w' := by
  have HN : Hid (Calls Tryz.prog 8 #[.agg #[.int .u8 1, .int .i64 2, .int .i64 5, .int .i64 1]] w (LNewPost w 1 2 5 1)) := qh (new8_any 1 2 5 1 w)
  go_enter Tryz.func6, Tryz.ntmps6
  go_wp2_with fail
  refine HN.out.mono ?_
  rintro e w1 ⟨hbe1, hcase⟩
  rcases hcase with ⟨c, q, h1, h2, h3, h4, -, he, hqw, hm1⟩ | ⟨hno, -⟩
  case inr => exact absurd hno (by decide)
  obtain ⟨u, g, f, t⟩ := c
  have h1 : u = 1 := h1
  have h2 : (g : Int) = 2 := h2
  have h3 : (f : Int) = 5 := h3
  have h4 : (t : Int) = 1 := h4
  obtain rfl := h1
  obtain rfl : g = 2 := by omega
  obtain rfl : f = 5 := by omega
  obtain rfl : t = 1 := by omega
  obtain rfl := he
  have hm1 : LMAt w1 (fun b => b = q) q q Aw.c0 ⟨2, .idle⟩ := hm1
  clear HN h2 h3 h4
  go_wp2_with fail
  refine (start_lit w1 hm1 Aw.start).mono ?_
  rintro e w2 ⟨rfl, hm2, hb2⟩
  have hbe2 := but_up hbe1 hb2 hqw
  clear hb2 hm1 hbe1
  go_wp2_with fail
  refine (start_lit w2 hm2 Aw.again).mono ?_
  rintro e w3 ⟨rfl, hm3, hb3⟩
  have hbe3 := but_up hbe2 hb3 hqw
  clear hb3 hm2 hbe2
  go_wp2_with fail
  refine (ltick8 w3 Aw.right hm3 (Aw.ok 0 (by decide)) Aw.send).mono ?_
  rintro e v4 ⟨B4, n4, cc4, KK4, xe4, yh4, yk4, yt4, rfl, hk4, hxe4, hn4, hc4, hmx4, hl4, hy4, hmm4, hbu4⟩
  have hbe4 := but_up hbe3 hbu4 hqw
  have hn8 : n4 = 8 := by rw [← hn4]; exact Aw.sentLen
  subst hn8
  obtain rfl : (0 : Int) = KK4 := hk4
  clear hbu4 hm3 hbe3 hxe4 hy4 hc4 hmx4
  obtain ⟨bb, oo, rfl, hcb⟩ := hl4 0 (by rw [Aw.sentLen]; decide)
  have hbq : bb ≠ q := hmm4.far hl4 (by rw [Aw.sentLen]; decide) bb oo none rfl
  have hf0 : u8v ((Ms.sent Aw.c0 Aw.a0)[0]'(by rw [Aw.sentLen]; decide)) = .int .u8 1 := by
    have h := Aw.sentFirst
    rw [List.getElem?_eq_getElem (by rw [Aw.sentLen]; decide)] at h
    injection h with h
    rw [h]
    rfl
  rw [hf0, Nat.add_zero] at hcb
  clear hf0 hl4 hn4
  go_wp2_with fail
  obtain ⟨w4, hw4⟩ : ∃ w4, v4.alloc (.cells #[.int .i64 0, .int .i64 xe4, .slice yh4.1 yh4.2.1 yh4.2.2, .slice yk4.1 yk4.2.1 yk4.2.2, .slice yt4.1 yt4.2.1 yt4.2.2] 48) = w4 := ⟨_, rfl⟩
  have hbv : Below v4.heap.size v4 (w4.alloc (.cells #[.int .u16 7] 38)) := by rw [← hw4]; exact ((Below.refl _ _).alloc (zq _) _).alloc (by simp) _
  have hlw : Lies u16v (w4.alloc (.cells #[.int .u16 7] 38)) (some ⟨w4.heap.size, 0, none⟩) [(7 : UInt16)] := lies_new (f := u16v) w4 #[.int .u16 7] 38 [7] rfl
  have hm5 := hmm4.below hbv
  have hbe5 := hbe4.trans (hbv.mono hbe4.size)
  have hcb5 := cell_later hbv hcb
  have hin : AnsIn (w4.alloc (.cells #[.int .u16 7] 38)) Aw.x0 (none, 0, 0) (some ⟨w4.heap.size, 0, none⟩, 1, 1) (none, 0, 0) := ⟨rfl, zq _, Nat.zero_le _, Lies.nil _ _, rfl, zq _, (by show (1 : Nat) ≤ maxLen; unfold maxLen; omega), hlw, rfl, zq _, Nat.zero_le _, Lies.nil _ _, fun s hs => by cases hs⟩
  have HB7 : Hid (Calls Tryz.prog 26 #[.agg #[.int .i64 3, .int .i64 0, .int .i64 1, .int .i64 0, .slice none 0 0, .slice none 0 0, .int .u16 0, .int .u16 0], .agg #[.int .i64 0, .slice none 0 0, .slice (some ⟨w4.heap.size, 0, none⟩) 1 1, .slice none 0 0]] (w4.alloc (.cells #[.int .u16 7] 38)) (AnBytesPost (w4.alloc (.cells #[.int .u16 7] 38)) Aw.a0 Aw.x0)) := qh (bytes7_any Aw.a0 Aw.x0 (none, 0, 0) (none, 0, 0) (none, 0, 0) (some ⟨w4.heap.size, 0, none⟩, 1, 1) (none, 0, 0) _ ⟨rfl, zq _, Nat.zero_le _, Lies.nil _ _, rfl, zq _, Nat.zero_le _, Lies.nil _ _⟩ hin (Nat.zero_le _))
  have hs4 : w4.heap.size = v4.heap.size + 1 := by rw [← hw4]; simp
  rw [hs4] at HB7
  rw [hw4]
  generalize w4.alloc (.cells #[.int .u16 7] 38) = w5 at *
  refine HB7.out.mono ?_
  rintro e w6 ⟨A6, n6, c6, rfl, hn6, hc6, hmx6, hl6, hb6⟩
  generalize An.codeA Aw.a0 Aw.x0 = CA
  have hm6 := hm5.below hb6
  have hbe6 := hbe5.trans (hb6.mono hbe5.size)
  have hcb6 := cell_later hb6 hcb5
  have HB3 : Hid (Calls Tryz.prog 23 #[.agg #[.int .u8 1, .slice A6 n6 c6]] w6 (BytesPost3 w6 1 (An.bytes Aw.a0 Aw.x0))) := qh (bytes3_any 1 A6 n6 c6 (An.bytes Aw.a0 Aw.x0) hn6 (by rw [← hn6]; exact Aw.bytesFew) w6 hl6)
  clear HB7 hb6 hm5 hbe5 hcb5 hn6 hc6 hmx6 hl6 hlw hin hbv hw4 hmm4 hbe4 hcb
  go_wp2_with fail
  refine HB3.out.mono ?_
  rintro e w7 ⟨A7, n7, c7, rfl, hn7, hown7, hb7⟩
  generalize Rtu.codeP (An.bytes Aw.a0 Aw.x0) = CP
  have hm7 := hm6.below hb7
  have hbe7 := hbe6.trans (hb7.mono hbe6.size)
  have hcb7 := cell_later hb7 hcb6
  have ho7 := own_at hown7
  have hfar : ∀ g o s, A7 = some ⟨g, o, s⟩ → 0 < (Rtu.bytes 1 (An.bytes Aw.a0 Aw.x0)).length → g ≠ q := fun g o s e _ => by
    subst e
    have h1 := (hown7.lt g rfl).1
    have h2 := hm6.lt
    omega
  have hbl : bb < w7.heap.size := World.block_lt_of_cell? _ _ hcb7
  have HT : Hid (Calls Tryz.prog 18 #[.pointer (some ⟨q, 0, none⟩), .slice A7 n7 c7] w7 (LTakePost (fun b => b = q) q q Aw.c0 w7 ⟨0, .waits 0 1 Aw.a0 Aw.r0⟩)) := qh (by
    have := take8_any (fun b => b = q) q q Aw.c0 ⟨0, .waits 0 1 Aw.a0 []⟩ A7 n7 c7 Aw.r0 hn7 ho7.1 (by rw [← hn7]; have h := Aw.heard.2.2; unfold Aw.r0 at h; omega) w7 hm7 hfar ho7.2.2.2
    rw [Aw.take] at this
    exact this)
  clear HB3 hb7 hm6 hbe6 hcb6 hown7 ho7 hfar hn7
  go_wp2_with fail
  refine HT.out.mono ?_
  rintro e w8 ⟨rfl, hb8, D, hD, hm8⟩
  have hDw : w.heap.size ≤ D := by
    rcases hD with rfl | h
    · exact hqw
    · exact Nat.le_trans hbe7.size h
  have hbe8 := but_up2 hbe7 hb8 hqw hqw
  have hcb8 : w8.cell? ⟨bb, oo, none⟩ = some (.int .u8 1) := (hb8.cell (p := ⟨bb, oo, none⟩) hbl (by simpa using hbq)).trans hcb7
  clear HT hb8 hm7 hbe7 hcb7 hbl hD
  generalize hS : (fun g => (fun b => b = q) g ∨ g = D) = S at *
  go_wp2_with fail
  refine (ltick8 w8 Aw.right hm8 (Aw.okr 0 (by decide)) Aw.quiet).mono ?_
  rintro e v9 ⟨B9, n9, cc9, KK9, xe9, yh9, yk9, yt9, rfl, hk9, hxe9, hn9, hc9, hmx9, hl9, hy9, hmm9, hbu9⟩
  have hbe9v := but_up hbe8 hbu9 hqw
  have hcb9v : v9.cell? ⟨bb, oo, none⟩ = some (.int .u8 1) := (hbu9.cell (p := ⟨bb, oo, none⟩) (World.block_lt_of_cell? _ _ hcb8) (by simpa using hbq)).trans hcb8
  obtain rfl : (0 : Int) = KK9 := hk9
  clear hbu9 hm8 hbe8 hxe9 hy9 hc9 hmx9 hcb8 hn9 hl9
  go_wp2_with fail
  have hqv9 := hmm9.lt
  have hba : Below v9.heap.size v9 (v9.alloc (.cells #[.int .i64 0, .int .i64 xe9, .slice yh9.1 yh9.2.1 yh9.2.2, .slice yk9.1 yk9.2.1 yk9.2.2, .slice yt9.1 yt9.2.1 yt9.2.2] 48)) := (Below.refl _ _).alloc (zq _) _
  have hrx := row_at v9 #[.int .i64 0, .int .i64 xe9, .slice yh9.1 yh9.2.1 yh9.2.2, .slice yk9.1 yk9.2.1 yk9.2.2, .slice yt9.1 yt9.2.1 yt9.2.2] 48 v9.heap.size rfl
  have hm9 := hmm9.below hba
  have hbe9 := hbe9v.trans (hba.mono hbe9v.size)
  have hcb9 := cell_later hba hcb9v
  obtain ⟨gx, hgx⟩ : ∃ gx, v9.heap.size = gx := ⟨_, rfl⟩
  have hgq : gx ≠ q := by omega
  generalize v9.alloc (.cells #[.int .i64 0, .int .i64 xe9, .slice yh9.1 yh9.2.1 yh9.2.2, .slice yk9.1 yk9.2.1 yk9.2.2, .slice yt9.1 yt9.2.1 yt9.2.2] 48) = w9 at *
  rw [hgx] at hrx ⊢
  clear hba hmm9 hbe9v hcb9v hqv9 hgx
  refine (ltick8 w9 Aw.right hm9 (Aw.okr 1 (by decide)) Aw.told).mono ?_
  rintro e v10 ⟨B10, n10, cc10, KK10, xe10, yh10, yk10, yt10, rfl, hk10, hxe10, hn10, hc10, hmx10, hl10, hy10, hmm10, hbu10⟩
  have hbe10v := but_up hbe9 hbu10 hqw
  have hcb10v : v10.cell? ⟨bb, oo, none⟩ = some (.int .u8 1) := (hbu10.cell (p := ⟨bb, oo, none⟩) (World.block_lt_of_cell? _ _ hcb9) (by simpa using hbq)).trans hcb9
  have hrx10v := row_but hrx hbu10 (by simpa using hgq)
  obtain rfl : (1 : Int) = KK10 := hk10
  have hyk : yk10.2.1 = 1 := hy10.kn.symm
  clear hbu10 hm9 hbe9 hxe10 hy10 hc10 hmx10 hcb9 hn10 hl10 hrx
  go_wp2_with fail
  have hqv10 := hmm10.lt
  have hba : Below v10.heap.size v10 (v10.alloc (.cells #[.int .i64 1, .int .i64 xe10, .slice yh10.1 yh10.2.1 yh10.2.2, .slice yk10.1 1 yk10.2.2, .slice yt10.1 yt10.2.1 yt10.2.2] 48)) := (Below.refl _ _).alloc (zq _) _
  have hry := row_at v10 #[.int .i64 1, .int .i64 xe10, .slice yh10.1 yh10.2.1 yh10.2.2, .slice yk10.1 1 yk10.2.2, .slice yt10.1 yt10.2.1 yt10.2.2] 48 v10.heap.size rfl
  have hm10 := hmm10.below hba
  have hbe10 := hbe10v.trans (hba.mono hbe10v.size)
  have hcb10 := cell_later hba hcb10v
  have hrx10 := row_later hrx10v hba
  obtain ⟨gy, hgy⟩ : ∃ gy, v10.heap.size = gy := ⟨_, rfl⟩
  have hgyq : gy ≠ q := by omega
  generalize v10.alloc (.cells #[.int .i64 1, .int .i64 xe10, .slice yh10.1 yh10.2.1 yh10.2.2, .slice yk10.1 1 yk10.2.2, .slice yt10.1 yt10.2.1 yt10.2.2] 48) = w10 at *
  rw [hgy] at hry ⊢
  clear hba hmm10 hbe10v hcb10v hqv10 hgy hrx10v hyk
  refine (lbusy8 w10 hm10).mono ?_
  rintro e w11 ⟨rfl, rfl⟩
  rw [show (Ms.code (⟨2, .idle⟩ : Mst).st != 0) = false from rfl]
  go_wp2_with fail
  refine (start_lit w11 hm10 Aw.start).mono ?_
  rintro e w12 ⟨rfl, hm12, hb12⟩
  have hbe12 := but_up hbe10 hb12 hqw
  have hcb12 : w12.cell? ⟨bb, oo, none⟩ = some (.int .u8 1) := (hb12.cell (p := ⟨bb, oo, none⟩) (World.block_lt_of_cell? _ _ hcb10) (by simpa using hbq)).trans hcb10
  have hrx12 := row_but hrx10 hb12 (by simpa using hgq)
  have hry12 := row_but hry hb12 (by simpa using hgyq)
  clear hb12 hm10 hbe10 hcb10 hrx10 hry
  have HCB := qh hcb12
  have HRX := qh hrx12
  have HRY := qh hry12
  have HBE := qh hbe12
  have HQW := qh hqw
  clear hcb12 hrx12 hry12 hbe12 hqw
  go_wp2_with fail
  go_loopw [16, 17] (fun k i wr => ∃ j : Nat, i = .int .i64 j ∧ ((j ≤ 5 ∧ k = .int .i64 0 ∧ LMAt wr S q D Aw.c0 (Aw.st j)) ∨ (j = 6 ∧ k = .int .i64 2 ∧ LMAt wr S q D Aw.c0 ⟨2, .idle⟩)) ∧ But [q] w12 wr) (fun _ i _ => 20 - (intOf i).toNat)
  case atStart => exact ⟨0, rfl, .inl ⟨by omega, rfl, hm12⟩, But.refl _ _⟩
  case round =>
    obtain ⟨j, rfl, hcase, hbw⟩ := hrel
    rcases hcase with ⟨hj, rfl, hm⟩ | ⟨rfl, rfl, hm⟩
    · obtain ⟨m', bs, o, hs, hst⟩ := Aw.step j hj
      have HM := qh hm
      have HBW := qh hbw
      have HST := qh hst
      have HTK := qh (ltick8 wr Aw.right hm (Aw.ok j hj) hs)
      have hj20 : (j : Int) < 20 := by omega
      clear hm hbw hst hs hm12
      go_wp2_with fail
      refine HTK.out.mono ?_
      rintro e vr ⟨B, n, cc, KK, xe, yh, yk, yt, rfl, hk, hxe, hn, hc, hmx, hl, hy, hmm, hbu⟩
      have HK := qh hk
      have HMM := qh hmm
      have HBU := qh hbu
      clear hk hxe hn hc hmx hl hy hmm hbu HTK
      go_wp2_with fail
      go_roundw
      case rel =>
        have hba : Below vr.heap.size vr (vr.alloc (.cells #[.int .i64 KK, .int .i64 xe, .slice yh.1 yh.2.1 yh.2.2, .slice yk.1 yk.2.1 yk.2.2, .slice yt.1 yt.2.1 yt.2.2] 48)) := (Below.refl _ _).alloc (zq _) _
        refine ⟨j + 1, by go_num, ?_, (HBW.out.trans HBU.out).then_below hba⟩
        rcases HST.out with ⟨h5, hk0, hm'⟩ | ⟨h5, hk2, hm'⟩
        · left
          refine ⟨by omega, ?_, ?_⟩
          · rw [← HK.out, hk0]
            rfl
          · rw [← hm']
            exact HMM.out.below hba
        · right
          refine ⟨by omega, ?_, ?_⟩
          · rw [← HK.out, hk2]
            rfl
          · rw [← hm']
            exact HMM.out.below hba
      case measure => simp [intOf]; omega
    · have hcb : wr.cell? ⟨bb, oo, none⟩ = some (.int .u8 1) := (hbw.cell (p := ⟨bb, oo, none⟩) (World.block_lt_of_cell? _ _ HCB.out) (by simpa using hbq)).trans HCB.out
      have hrx := row_but HRX.out hbw (by simpa using hgq)
      have hry := row_but HRY.out hbw (by simpa using hgyq)
      have hbe := but_up HBE.out hbw HQW.out
      obtain ⟨⟨p0, p1, p2, p3, p4⟩, -⟩ := row_five8 hrx
      obtain ⟨⟨y0, y1, y2, y3, y4⟩, -⟩ := row_five8 hry
      have HR0 : Hid (Calls Tryz.prog 10 #[.agg #[.int .u8 0, .int .i64 0, .int .i64 0, .int .i64 0]] wr fun e w' => e = .returned (.bool false) ∧ Below wr.heap.size wr w') := qh (right8_any 0 0 0 0 wr)
      have HBE2 := qh hbe
      clear hm hbw hrx hry hbe hm12
      go_wp2_with fail
      refine HR0.out.mono ?_
      rintro e wz ⟨rfl, hbz⟩
      have hfin := HBE2.out.trans (hbz.mono HBE2.out.size)
      clear hbz
      go_wp2_with fail
      go_ret
      exact ⟨rfl, hfin⟩

end Go.Proofs.YtlgmjnjhdamknaaGreat
