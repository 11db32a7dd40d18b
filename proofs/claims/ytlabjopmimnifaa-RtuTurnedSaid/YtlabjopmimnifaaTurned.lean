/-
  The law RtuTurned, walked: it answers true, and nothing that was there is touched.
-/
import Derived.Test.YtlabjopmimnifaaAwake
import Derived.RegionTactic
namespace Go.Proofs.Ytlabjopmimnifaa
open Go.RowKit

theorem table_at (r : Nat) (h : r < 8) : (#[Value.int .u8 1, .int .u8 2, .int .u8 4, .int .u8 8, .int .u8 16, .int .u8 32, .int .u8 64, .int .u8 128] : Array Value)[r]? = some (.int .u8 ((2 ^ r : Nat) : Int)) := by
  rcases r with _ | _ | _ | _ | _ | _ | _ | _ | r
  all_goals first | rfl | omega
theorem table_cell (w : World) (e : TypeId) (r : Nat) (h : r < 8) :
    (w.alloc (.cells #[.int .u8 1, .int .u8 2, .int .u8 4, .int .u8 8, .int .u8 16, .int .u8 32, .int .u8 64, .int .u8 128] e)).cell? ⟨w.heap.size, r, none⟩ = some (.int .u8 ((2 ^ r : Nat) : Int)) := by
  rw [cell_of_row _ w.heap.size r _ e (0, 0) (heap_alloc_new w _), table_at r h]
theorem map_set8 (l : List UInt8) (i : Nat) (y : UInt8) : (l.map u8v).set i (.int .u8 (y.toNat : Int)) = (l.set i y).map u8v := by rw [List.map_set]
theorem xor_lt8 {a c : Nat} (ha : a < 256) (hc : c < 256) : a ^^^ c < 256 := Nat.xor_lt_two_pow (n := 8) (by omega) (by omega)

set_option maxRecDepth 100000 in
set_option maxHeartbeats 1000000 in
theorem turned_in (u : UInt8) (A : Option Addr) (n c : Nat) (p : List UInt8) (hn : p.length = n) (hgood : Rtu.codeP p = 0) (k t : Nat) (ht : t < 65536) (ht0 : t ≠ 0) (hk : k + 16 ≤ 8 * (n + 3)) (w : World) (ha : Lies u8v w A p) :
    Calls Try.prog 5 #[.agg #[u8v u, .slice A n c], .int .i64 (k : Int), .int .u16 (t : Int)] w fun e w' => e = .returned (.bool true) ∧ Below w.heap.size w w' := by
  have h253 := (Rtu.codeP_zero hgood).2
  have HN := Lib.hid hn
  have g0 : n ≤ 253 := by omega
  have g1 : (n : Int) ≤ 400 := by omega
  have g2 : ((t : Int) == 0) = false := by simp; omega
  have g3 : (0 : Int) ≤ (k : Int) := by omega
  have g4 : (k : Int) ≤ 8 * ((n + 3 : Nat) : Int) - 16 := by omega
  have HBL : Hid ((Rtu.bytes u p).length = n + 3) := Lib.hid (by rw [Rtu.bytes_length hgood, hn])
  have HG := Lib.hid hgood
  clear hn h253 hgood
  go_enter Try.func5, Try.ntmps5
  go_wp2_with fail
  have hbe0 : Below w.heap.size w (w.alloc (.cells #[u8v u, .slice A n c] 24)) := (Below.refl _ _).alloc (Nat.le_refl _) _
  have ha0 := ha.below hbe0 (Nat.le_refl _)
  refine (awake_any _).mono ?_
  rintro e w1 ⟨rfl, hbe1'⟩
  obtain ⟨hx0, hx1⟩ := row_frame (hbe1'.mono (by simp))
  have hbe1 := hbe0.trans (hbe1'.mono (by simp))
  have ha1 := ha0.below hbe1' (Nat.le_refl _)
  have hz1 := hbe1.size
  clear ha hbe0 ha0 hbe1'
  go_wp2_with fail
  refine (bytes3_any u A n c p HN.out (by omega) _ ha1).mono ?_
  rintro e w2 ⟨A2, n2, c2, rfl, hn2, hown2, hbe2'⟩
  rw [HG.out]
  obtain rfl : n2 = n + 3 := hn2.symm.trans HBL.out
  have hbe2 := hbe1.trans (hbe2'.mono hz1)
  have hown2 := own_lower hown2 hz1
  obtain ⟨g, cap, hv, hbg, hlt⟩ := hown2.form (by omega)
  simp only [Value.slice.injEq, true_and] at hv
  obtain ⟨rfl, rfl⟩ := hv
  clear hn2 hbe2' hbe1 ha1 hz1 hx0 hx1
  have hN256 : n + 3 ≤ 256 := by omega
  go_wp2_with fail
  generalize n + 3 = N at *
  have HT := Lib.hid (fun cs hl hnum => Rtu.turned (u := u) (p := p) (cs := cs) HG.out k t hl hnum (by rw [HBL.out]; omega) ht ht0)
  generalize Rtu.bytes u p = l at *
  go_loopw [2, 10] (fun tv iv wr => ∃ j : Nat, j ≤ 16 ∧ iv = .int .i64 j ∧ tv = .int .u16 ((t / 2 ^ j : Nat) : Int) ∧ ∃ cs : List UInt8, cs.length = N ∧ Crc.num cs = Crc.num l ^^^ (t % 2 ^ j * 2 ^ k) ∧ wr.ownsRow w.heap.size 5 1 (.slice (some ⟨g, 0, none⟩) N c2) N (cs.map u8v) ∧ Below w.heap.size w wr) (fun _ iv _ => 16 - (intOf iv).toNat)
  case atStart => exact ⟨0, by omega, rfl, by rw [Nat.pow_zero, Nat.div_one], l, HBL.out, by rw [Nat.pow_zero, Nat.mod_one, Nat.zero_mul, Nat.xor_zero], hown2, hbe2⟩
  case round =>
    clear hown2 hbe2
    obtain ⟨j, hj, rfl, rfl, cs, hcs, hnum, hown, hbe⟩ := hrel
    have hzr := hbe.size
    have HC := Lib.hid hcs
    have HU := Lib.hid hnum
    have HB := Lib.hid (Crc.bit_more t k j)
    have hTl : t / 2 ^ j < 65536 := Nat.lt_of_le_of_lt (Nat.div_le_self _ _) ht
    have HT2 : Hid (t / 2 ^ (j + 1) = t / 2 ^ j / 2) := by show _ = _; rw [Nat.pow_succ, Nat.div_div_eq_div_mul]
    clear hcs hnum
    by_cases hlt16 : j < 16
    · generalize t / 2 ^ j = T at hTl HT2 HB
      rcases Nat.mod_two_eq_zero_or_one T with h2 | h2
      · have hb : ((T : Int) % 2 == 1) = false := by simp; omega
        rw [h2, Nat.zero_mul, Nat.xor_zero] at HB
        clear h2
        go_wp2
        go_roundw
        case rel => exact ⟨j + 1, by omega, by go_num, by rw [HT2.out]; rfl, cs, HC.out, by rw [HB.out]; exact HU.out, hown, hbe⟩
        case measure => simp [intOf]; omega
      · have hb : ((T : Int) % 2 == 1) = true := by simp; omega
        rw [h2, Nat.one_mul] at HB
        clear h2
        have hq : (k + j) / 8 < N := by omega
        have hci := hown.cellAt ((k + j) / 8) (by omega)
        have hfi := hown.frozenAt ((k + j) / 8)
        obtain ⟨x, hx⟩ : ∃ x, cs[(k + j) / 8]? = some x := ⟨_, List.getElem?_eq_getElem (by have := HC.out; omega)⟩
        rw [List.getElem?_map, hx] at hci
        have HX := Lib.hid hx
        clear hx
        have hci' : wr.cell? ⟨g, (k + j) / 8, none⟩ = some (.int .u8 (x.toNat : Int)) := hci
        clear hci
        have hgl := (hown.lt g rfl).2
        have hr8 : (k + j) % 8 < 8 := by omega
        have htab := table_cell wr 5 ((k + j) % 8) hr8
        have hP : 2 ^ ((k + j) % 8) ≤ 2 ^ 7 := Nat.pow_le_pow_right (by omega) (by omega)
        generalize hPe : 2 ^ ((k + j) % 8) = P at hP htab
        have HPe := Lib.hid hPe
        clear hPe
        have hxor := u8_xor_nat x.toNat P x.toNat_lt (by omega)
        go_wp2
        go_region
        all_goals
          go_wp2
          go_roundw
          case rel =>
            obtain ⟨y, hy⟩ : ∃ y : UInt8, y.toNat = x.toNat ^^^ P := ⟨UInt8.ofNat (x.toNat ^^^ P), by
              rw [UInt8.toNat_ofNat']; exact Nat.mod_eq_of_lt (xor_lt8 x.toNat_lt (by omega))⟩
            have hst := (hown.stored ((k + j) / 8) (.int .u8 (y.toNat : Int))).1
            rw [map_set8] at hst
            have hcl : (k + j) / 8 < cs.length := by have := HC.out; omega
            have hxe : cs[(k + j) / 8] = x := by have := HX.out; rw [List.getElem?_eq_getElem hcl] at this; injection this
            have hns := Crc.num_set cs ((k + j) / 8) ((k + j) % 8) y hcl hr8 (by rw [hxe, hy, HPe.out])
            rw [show 8 * ((k + j) / 8) + (k + j) % 8 = k + j from by omega] at hns
            refine ⟨j + 1, by omega, by go_num, by rw [HT2.out]; rfl, cs.set ((k + j) / 8) y, by rw [List.length_set]; exact HC.out, by rw [hns, HB.out, HU.out, Nat.xor_assoc], ?_, ?_⟩
            · rw [hy] at hst
              exact hst.alloc _
            · exact ((hbe.setCell (p := ⟨g, (k + j) / 8, none⟩) hbg _).alloc (by simpa [World.setCell] using hzr) _).drew
          case measure => simp [intOf]; omega
    · obtain rfl : j = 16 := by omega
      clear HT2 HB hTl
      have ht2 : t % 2 ^ 16 = t := Nat.mod_eq_of_lt ht
      rw [ht2] at HU
      have H6 := Lib.hid (HT.out cs (HC.out.trans HBL.out.symm) HU.out)
      clear ht2
      obtain ⟨hnc, _, _, hyr⟩ := own_at hown
      go_wp2_with fail
      refine (read3_any _ N c2 cs HC.out hnc (by omega) _ hyr).mono ?_
      rintro e w3 ⟨A3, n3, c3, rfl, _, _, _, _, hbe3⟩
      rw [H6.out]
      go_wp2_with fail
      go_ret
      exact ⟨by simp, (hbe.trans (hbe3.mono hzr)).alloc (Nat.le_trans hzr hbe3.size) _⟩

set_option maxRecDepth 100000 in
set_option maxHeartbeats 1000000 in
theorem turned_any (u : UInt8) (A : Option Addr) (n c : Nat) (p : List UInt8) (hn : p.length = n) (k : Int) (t : Nat) (ht : t < 65536) (w : World) (ha : Lies u8v w A p) :
    Calls Try.prog 5 #[.agg #[u8v u, .slice A n c], .int .i64 k, .int .u16 (t : Int)] w fun e w' => e = .returned (.bool true) ∧ Below w.heap.size w w' := by
  by_cases h1 : n ≤ 400
  · by_cases hg : Rtu.codeP p = 0
    · by_cases h2 : t = 0
      · subst h2
        have hgl := (Rtu.codeP_zero hg).2
        have HN := Lib.hid hn
        have HG := Lib.hid hg
        have g1 : (n : Int) ≤ 400 := by omega
        clear hn hg ht
        go_enter Try.func5, Try.ntmps5
        go_wp2_with fail
        have hbe0 : Below w.heap.size w (w.alloc (.cells #[u8v u, .slice A n c] 24)) := (Below.refl _ _).alloc (Nat.le_refl _) _
        refine (awake_any _).mono ?_
        rintro e w1 ⟨rfl, hbe1'⟩
        obtain ⟨hx0, hx1⟩ := row_frame (hbe1'.mono (by simp))
        have hbe1 := hbe0.trans (hbe1'.mono (by simp))
        have ha1 := ha.below hbe1 (Nat.le_refl _)
        have hz1 := hbe1.size
        go_wp2_with fail
        refine (bytes3_any u A n c p HN.out (by omega) _ ha1).mono ?_
        rintro e w2 ⟨A2, n2, c2, rfl, hn2, hown2, hbe2'⟩
        have hbe2 := hbe1.trans (hbe2'.mono hz1)
        rw [HG.out]
        go_wp2_with fail
        go_ret
        exact ⟨rfl, hbe2⟩
      · by_cases h3 : k < 0
        · have hgl := (Rtu.codeP_zero hg).2
          have HBL : Hid ((Rtu.bytes u p).length = n + 3) := Lib.hid (by rw [Rtu.bytes_length hg, hn])
          have HN := Lib.hid hn
          have HG := Lib.hid hg
          have g1 : (n : Int) ≤ 400 := by omega
          have g2 : ((t : Int) == 0) = false := by simp; omega
          have hn5 : n ≤ 253 := by omega
          clear hn hg h2 hgl
          go_enter Try.func5, Try.ntmps5
          go_wp2_with fail
          have hbe0 : Below w.heap.size w (w.alloc (.cells #[u8v u, .slice A n c] 24)) := (Below.refl _ _).alloc (Nat.le_refl _) _
          refine (awake_any _).mono ?_
          rintro e w1 ⟨rfl, hbe1'⟩
          obtain ⟨hx0, hx1⟩ := row_frame (hbe1'.mono (by simp))
          have hbe1 := hbe0.trans (hbe1'.mono (by simp))
          have ha1 := ha.below hbe1 (Nat.le_refl _)
          have hz1 := hbe1.size
          go_wp2_with fail
          refine (bytes3_any u A n c p HN.out (by omega) _ ha1).mono ?_
          rintro e w2 ⟨A2, n2, c2, rfl, hn2, hown2, hbe2'⟩
          have hbe2 := hbe1.trans (hbe2'.mono hz1)
          rw [HG.out]
          obtain rfl : n2 = n + 3 := hn2.symm.trans HBL.out
          go_wp2_with fail
          go_ret
          exact ⟨rfl, hbe2⟩
        · by_cases h4 : k ≤ 8 * (n + 3 : Nat) - 16
          · obtain ⟨k', rfl⟩ := Int.eq_ofNat_of_zero_le (show 0 ≤ k by omega)
            exact turned_in u A n c p hn hg k' t ht h2 (by omega) w ha
          · have hgl := (Rtu.codeP_zero hg).2
            have HBL : Hid ((Rtu.bytes u p).length = n + 3) := Lib.hid (by rw [Rtu.bytes_length hg, hn])
            have HN := Lib.hid hn
            have HG := Lib.hid hg
            have g1 : (n : Int) ≤ 400 := by omega
            have g2 : ((t : Int) == 0) = false := by simp; omega
            have g3 : 0 ≤ k := by omega
            have g4 : 8 * ((n : Int) + 3) - 16 < k := by omega
            have hn5 : n ≤ 253 := by omega
            clear hn hg h2 h3 h4 hgl
            go_enter Try.func5, Try.ntmps5
            go_wp2_with fail
            have hbe0 : Below w.heap.size w (w.alloc (.cells #[u8v u, .slice A n c] 24)) := (Below.refl _ _).alloc (Nat.le_refl _) _
            refine (awake_any _).mono ?_
            rintro e w1 ⟨rfl, hbe1'⟩
            obtain ⟨hx0, hx1⟩ := row_frame (hbe1'.mono (by simp))
            have hbe1 := hbe0.trans (hbe1'.mono (by simp))
            have ha1 := ha.below hbe1 (Nat.le_refl _)
            have hz1 := hbe1.size
            go_wp2_with fail
            refine (bytes3_any u A n c p HN.out (by omega) _ ha1).mono ?_
            rintro e w2 ⟨A2, n2, c2, rfl, hn2, hown2, hbe2'⟩
            have hbe2 := hbe1.trans (hbe2'.mono hz1)
            rw [HG.out]
            obtain rfl : n2 = n + 3 := hn2.symm.trans HBL.out
            go_wp2_with fail
            go_ret
            exact ⟨rfl, hbe2⟩
    · have HN := Lib.hid hn
      have g1 : (n : Int) ≤ 400 := by omega
      have g2 : (((Rtu.codeP p : Nat) : Int) != 0) = true := by rw [bne_iff_ne]; omega
      clear hn hg
      go_enter Try.func5, Try.ntmps5
      go_wp2_with fail
      have hbe0 : Below w.heap.size w (w.alloc (.cells #[u8v u, .slice A n c] 24)) := (Below.refl _ _).alloc (Nat.le_refl _) _
      refine (awake_any _).mono ?_
      rintro e w1 ⟨rfl, hbe1'⟩
      obtain ⟨hx0, hx1⟩ := row_frame (hbe1'.mono (by simp))
      have hbe1 := hbe0.trans (hbe1'.mono (by simp))
      have ha1 := ha.below hbe1 (Nat.le_refl _)
      have hz1 := hbe1.size
      go_wp2_with fail
      refine (bytes3_any u A n c p HN.out (by omega) _ ha1).mono ?_
      rintro e w2 ⟨A2, n2, c2, rfl, hn2, hown2, hbe2'⟩
      have hbe2 := hbe1.trans (hbe2'.mono hz1)
      generalize Rtu.codeP p = q at g2
      go_wp2_with fail
      go_ret
      exact ⟨rfl, hbe2⟩
  · have g1 : (400 : Int) < (n : Int) := by omega
    clear hn ha
    go_enter Try.func5, Try.ntmps5
    go_wp2_with fail
    have hbe0 : Below w.heap.size w (w.alloc (.cells #[u8v u, .slice A n c] 24)) := (Below.refl _ _).alloc (Nat.le_refl _) _
    refine (awake_any _).mono ?_
    rintro e w1 ⟨rfl, hbe1'⟩
    obtain ⟨hx0, hx1⟩ := row_frame (hbe1'.mono (by simp))
    have hbe1 := hbe0.trans (hbe1'.mono (by simp))
    go_wp2_with fail
    go_ret
    exact ⟨rfl, hbe1⟩
end Go.Proofs.Ytlabjopmimnifaa
