/-
  The law CrcBursts, walked: it answers true, and nothing that was there is touched.
-/
import Derived.Test.YtdiodopdndojbaaAwake
import Derived.RegionTactic
namespace Go.Proofs.Ytdiodopdndojbaa
open Go.RowKit

theorem table_at (r : Nat) (h : r < 8) : (#[Value.int .u8 1, .int .u8 2, .int .u8 4, .int .u8 8, .int .u8 16, .int .u8 32, .int .u8 64, .int .u8 128] : Array Value)[r]? = some (.int .u8 ((2 ^ r : Nat) : Int)) := by
  rcases r with _ | _ | _ | _ | _ | _ | _ | _ | r
  all_goals first | rfl | omega
theorem table_cell (w : World) (e : TypeId) (r : Nat) (h : r < 8) :
    (w.alloc (.cells #[.int .u8 1, .int .u8 2, .int .u8 4, .int .u8 8, .int .u8 16, .int .u8 32, .int .u8 64, .int .u8 128] e)).cell? ⟨w.heap.size, r, none⟩ = some (.int .u8 ((2 ^ r : Nat) : Int)) := by
  rw [cell_of_row _ w.heap.size r _ e (0, 0) (heap_alloc_new w _), table_at r h]
theorem bv_set (l : List UInt8) (i : Nat) (y : UInt8) : (bv l).set i (.int .u8 (y.toNat : Int)) = bv (l.set i y) := by
  unfold bv; rw [List.map_set]

set_option maxRecDepth 100000 in
set_option maxHeartbeats 1000000 in
theorem bursts_in (A : Option Addr) (n c : Nat) (l : List UInt8) (hn : l.length = n) (hnc : n ≤ 400) (k t : Nat) (ht : t < 65536) (ht0 : t ≠ 0) (hk : k + 16 ≤ 8 * n) (w : World) (ha : Bytes w A l) :
    Calls Try.prog 5 #[.slice A n c, .int .i64 k, .int .u16 t] w fun e w' => e = .returned (.bool true) ∧ Below w.heap.size w w' := by
  have HN := Lib.hid hn
  clear hn
  have g1 : (n : Int) ≤ 400 := by omega
  have g2 : ((t : Int) == 0) = false := by simp; omega
  have g3 : (0 : Int) ≤ (k : Int) := by omega
  have g4 : (k : Int) ≤ 8 * (n : Int) - 16 := by omega
  have hml : n ≤ maxLen := by unfold maxLen; omega
  go_enter Try.func5, Try.ntmps5
  go_wp2_with fail
  refine (awake_any _).mono ?_
  rintro e w1 ⟨rfl, hbe1⟩
  have ha1 := ha.below hbe1 (Nat.le_refl _)
  have hz1 := hbe1.size
  go_wp2_with (at_builtin; go_must (refine wpList_append_bytes kit _ rfl (.tmp 33) (.tmp 34) rfl w.heap.size _ 0 [] rfl (World.ownsRow_lit _ #[] 0 hz1 (by unfold maxLen; omega) rfl) A n c l rfl HN.out (ha1.alloc _) (by omega) (by simp; omega) ?_; intro A2 c2 w2 hown2 _ hb2'; simp only [Nat.zero_add, List.nil_append] at hown2; have hbe2 := hbe1.trans (((Below.refl w.heap.size w1).alloc hz1 _).trans hb2')))
  obtain ⟨g, cap, hv, hbg, hlt⟩ := hown2.form (by omega)
  simp only [Value.slice.injEq, true_and] at hv
  obtain ⟨rfl, rfl⟩ := hv
  have HL := Lib.hid (HN.out)
  go_loopw [2, 9] (fun tv iv wr => ∃ j : Nat, j ≤ 16 ∧ iv = .int .i64 j ∧ tv = .int .u16 ((t / 2 ^ j : Nat) : Int) ∧ ∃ cs : List UInt8, cs.length = n ∧ Crc.num cs = Crc.num l ^^^ (t % 2 ^ j * 2 ^ k) ∧ wr.ownsRow w.heap.size 5 1 (.slice (some ⟨g, 0, none⟩) n c2) n (bv cs) ∧ Below w.heap.size w wr) (fun _ iv _ => 16 - (intOf iv).toNat)
  case atStart => exact ⟨0, by omega, rfl, by rw [Nat.pow_zero, Nat.div_one], l, HN.out, by rw [Nat.pow_zero, Nat.mod_one, Nat.zero_mul, Nat.xor_zero], hown2, hbe2⟩
  case round =>
    clear hown2 hbe2 hb2'
    obtain ⟨j, hj, rfl, rfl, cs, hcs, hnum, hown, hbe⟩ := hrel
    have hzr := hbe.size
    have HC := Lib.hid hcs
    have HU := Lib.hid hnum
    have HB := Lib.hid (Crc.bit_more t k j)
    have hTl : t / 2 ^ j < 65536 := Nat.lt_of_le_of_lt (Nat.div_le_self _ _) ht
    have HT2 : Hid (t / 2 ^ (j + 1) = t / 2 ^ j / 2) := by show _ = _; rw [Nat.pow_succ, Nat.div_div_eq_div_mul]
    clear hcs hnum
    by_cases hlt16 : j < 16
    · generalize t / 2 ^ j = T at hTl HT2 HB
      rcases Nat.mod_two_eq_zero_or_one T with h2 | h2
      · have hb : ((T : Int) % 2 == 1) = false := by simp; omega
        rw [h2, Nat.zero_mul, Nat.xor_zero] at HB
        clear h2
        go_wp2
        go_roundw
        case rel => exact ⟨j + 1, by omega, by go_num, by rw [HT2.out]; rfl, cs, HC.out, by rw [HB.out]; exact HU.out, hown, hbe⟩
        case measure => simp [intOf]; omega
      · have hb : ((T : Int) % 2 == 1) = true := by simp; omega
        rw [h2, Nat.one_mul] at HB
        clear h2
        have hq : (k + j) / 8 < n := by omega
        have hci := hown.cellAt ((k + j) / 8) (by omega)
        have hfi := hown.frozenAt ((k + j) / 8)
        obtain ⟨x, hx⟩ : ∃ x, cs[(k + j) / 8]? = some x := ⟨_, List.getElem?_eq_getElem (by have := HC.out; omega)⟩
        rw [bv_get, hx] at hci
        have HX := Lib.hid hx
        clear hx
        have hci' : wr.cell? ⟨g, (k + j) / 8, none⟩ = some (.int .u8 (x.toNat : Int)) := hci
        clear hci
        have hgl := (hown.lt g rfl).2
        have hr8 : (k + j) % 8 < 8 := by omega
        have htab := table_cell wr 5 ((k + j) % 8) hr8
        have hP : 2 ^ ((k + j) % 8) ≤ 2 ^ 7 := Nat.pow_le_pow_right (by omega) (by omega)
        have HPP := Lib.hid (Eq.refl (2 ^ ((k + j) % 8)))
        generalize hPe : 2 ^ ((k + j) % 8) = P at hP htab
        have HPe := Lib.hid hPe
        clear hPe HPP
        have hxor := u8_xor_nat x.toNat P x.toNat_lt (by omega)
        go_wp2
        go_region
        all_goals
          go_wp2
          go_roundw
          case rel =>
            obtain ⟨y, hy⟩ : ∃ y : UInt8, y.toNat = x.toNat ^^^ P := ⟨UInt8.ofNat (x.toNat ^^^ P), by
              rw [UInt8.toNat_ofNat']; exact Nat.mod_eq_of_lt (Crc.xor_lt256 x.toNat_lt (by omega))⟩
            have hst := (hown.stored ((k + j) / 8) (.int .u8 (y.toNat : Int))).1
            rw [bv_set] at hst
            have hcl : (k + j) / 8 < cs.length := by have := HC.out; omega
            have hxe : cs[(k + j) / 8] = x := by have := HX.out; rw [List.getElem?_eq_getElem hcl] at this; injection this
            have hns := Crc.num_set cs ((k + j) / 8) ((k + j) % 8) y hcl hr8 (by rw [hxe, hy, HPe.out])
            rw [show 8 * ((k + j) / 8) + (k + j) % 8 = k + j from by omega] at hns
            refine ⟨j + 1, by omega, by go_num, by rw [HT2.out]; rfl, cs.set ((k + j) / 8) y, by rw [List.length_set]; exact HC.out, by rw [hns, HB.out, HU.out, Nat.xor_assoc], ?_, ?_⟩
            · rw [hy] at hst
              exact hst.alloc _
            · exact ((hbe.setCell (p := ⟨g, (k + j) / 8, none⟩) hbg _).alloc (by simpa [World.setCell] using hzr) _).drew
          case measure => simp [intOf]; omega
    · obtain rfl : j = 16 := by omega
      clear HT2 HB hTl
      have ht1 : t / 2 ^ 16 = 0 := Nat.div_eq_of_lt ht
      have ht2 : t % 2 ^ 16 = t := Nat.mod_eq_of_lt ht
      rw [ht1]
      rw [ht2] at HU
      have hne := Crc.more_burst l cs 65535 k t (by have := HC.out; have := HN.out; omega) HU.out (by have := HN.out; omega) ht ht0
      have hne' : ((Crc.more 65535 l : Nat) : Int) ≠ ((Crc.more 65535 cs : Nat) : Int) := by
        intro e; exact hne (by exact_mod_cast e)
      have hbn : (((Crc.more 65535 l : Nat) : Int) != ((Crc.more 65535 cs : Nat) : Int)) = true := bne_iff_ne.2 hne'
      have HBN := Lib.hid hbn
      clear ht1 ht2 hne hne' hbn
      have har := ha.below hbe (Nat.le_refl _)
      obtain ⟨_, _, hyr⟩ := own_at hown
      go_wp2_with fail
      refine (sum_any A n c l HN.out hml _ har).mono ?_
      rintro e w3 ⟨rfl, rfl⟩
      go_wp2_with fail
      refine (sum_any _ n c2 cs HC.out hml _ hyr).mono ?_
      rintro e w4 ⟨rfl, rfl⟩
      go_wp2_with fail
      go_ret
      exact ⟨by simp [HBN.out], hbe⟩

set_option maxRecDepth 100000 in
set_option maxHeartbeats 400000 in
theorem bursts_any (A : Option Addr) (n c : Nat) (l : List UInt8) (hn : l.length = n) (k : Int) (t : Nat) (ht : t < 65536) (w : World) (ha : Bytes w A l) :
    Calls Try.prog 5 #[.slice A n c, .int .i64 k, .int .u16 t] w fun e w' => e = .returned (.bool true) ∧ Below w.heap.size w w' := by
  by_cases h1 : n ≤ 400
  · by_cases h2 : t = 0
    · subst h2
      clear hn ha
      have g1 : (n : Int) ≤ 400 := by omega
      go_enter Try.func5, Try.ntmps5
      go_wp2_with fail
      refine (awake_any _).mono ?_
      rintro e w1 ⟨rfl, hbe1⟩
      go_wp2_with fail
      go_ret
      exact ⟨rfl, hbe1⟩
    · by_cases h3 : k < 0
      · clear hn ha
        have g1 : (n : Int) ≤ 400 := by omega
        have g2 : ((t : Int) == 0) = false := by simp; omega
        go_enter Try.func5, Try.ntmps5
        go_wp2_with fail
        refine (awake_any _).mono ?_
        rintro e w1 ⟨rfl, hbe1⟩
        go_wp2_with fail
        go_ret
        exact ⟨rfl, hbe1⟩
      · by_cases h4 : k ≤ 8 * (n : Int) - 16
        · obtain ⟨k', rfl⟩ := Int.eq_ofNat_of_zero_le (show 0 ≤ k by omega)
          exact bursts_in A n c l hn h1 k' t ht h2 (by omega) w ha
        · clear hn ha
          have g1 : (n : Int) ≤ 400 := by omega
          have g2 : ((t : Int) == 0) = false := by simp; omega
          have g3 : 0 ≤ k := by omega
          have g4 : 8 * (n : Int) - 16 < k := by omega
          clear h3 h4
          go_enter Try.func5, Try.ntmps5
          go_wp2_with fail
          refine (awake_any _).mono ?_
          rintro e w1 ⟨rfl, hbe1⟩
          go_wp2_with fail
          go_ret
          exact ⟨rfl, hbe1⟩
  · clear hn ha
    have g1 : (400 : Int) < (n : Int) := by omega
    go_enter Try.func5, Try.ntmps5
    go_wp2_with fail
    refine (awake_any _).mono ?_
    rintro e w1 ⟨rfl, hbe1⟩
    go_wp2_with fail
    go_ret
    exact ⟨rfl, hbe1⟩
end Go.Proofs.Ytdiodopdndojbaa
