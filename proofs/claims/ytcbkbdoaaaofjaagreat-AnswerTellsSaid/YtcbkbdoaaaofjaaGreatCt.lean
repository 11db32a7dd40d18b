
/-
  The landed ask: cut (the number that bytes begin with).
-/
import Derived.Test.YtcbkbdoaaaofjaaGreatPa
import Derived.Deep.RegionHeld3
import Derived.Deep.OwnRows
namespace Go.Proofs.YtcbkbdoaaaofjaaGreat
open Go.RowKit Go.Shelf

/-- The number that bytes begin with. -/
def cutN (b : List UInt8) (sz : Nat) : UInt16 := if sz = 1 then Word.word 0 (b.getD 0 0) else Word.word (b.getD 0 0) (b.getD 1 0)
/-- What cut leaves. -/
def CutPost (w : World) (A : Option Addr) (b : List UInt8) (n sz : Nat) (e : Ending) (w' : World) : Prop :=
  Below w.heap.size w w' ∧ (if n < sz then e = .returned (.tuple #[.int .i64 0, .slice none 0 0, .bool false])
    else ∃ A' m c', e = .returned (.tuple #[.int .i64 ((cutN b sz).toNat : Int), .slice A' m c', .bool true]) ∧ (b.drop sz).length = m ∧ m ≤ c' ∧ c' ≤ maxLen ∧ ∀ W, Lies u8v W A b → Lies u8v W A' (b.drop sz))

theorem make8_run (n : Nat) (hn : n ≤ 2) (w : World) :
    (Instr.makeSlice 31 (.int .i64 (n : Int)) (.int .i64 (n : Int))).run Tryz.prog w = .ok (.slice (some ⟨w.heap.size, 0, none⟩) n n) (w.alloc (.cells (madeCells #[.int .u8 0] n) 5)) :=
  Go.run_make_row' 31 5 (.int .u8 0) 1 kit8.ht kit8.hi rfl .i64 .i64 n (by omega) (by omega) w
set_option maxRecDepth 100000 in
theorem slice_off {α : Type} {f : α → Value} (A : Option Addr) (n c i : Nat) (l : List α) (hl : l.length = n) (hi : i ≤ n) (hc : n ≤ c) :
    ∃ X, (∀ w, (Instr.slice 31 (.slice A n c) (some (.int .i64 (i : Int))) none none).run Tryz.prog w = .ok (.slice X (n - i) (c - i)) w) ∧ ∀ W, Lies f W A l → Lies f W X (l.drop i) := by
  refine ⟨if c = i then A else A.map (·.add i), fun w => ?_, fun W h => ?_⟩
  · rw [run_slice_l w 31 A n c (by kernel_rfl) .i64 i (by omega) (by omega), show (sizeOf (Tryz.prog.elem 31)).run Tryz.prog w = .ok 1 w by kernel_rfl]
    simp [Result.andThen, sliced]
  · intro j hj
    rw [List.length_drop] at hj
    obtain ⟨b, off, rfl, _⟩ := h j (by omega)
    rw [if_neg (by omega)]
    have hadd : (⟨b, off, none⟩ : Addr).add i = ⟨b, off + i, none⟩ := by unfold Addr.add; split <;> simp_all
    simp only [Option.map_some, hadd]
    exact (h.drop i) j (by rw [List.length_drop]; exact hj)
theorem OwnBytes.at_ {w w' : World} {l : List UInt8} {e : Ending} (h : OwnBytes w l e w') : ∃ A c, e = .returned (.slice A l.length c) ∧ l.length ≤ c ∧ c ≤ maxLen ∧ Lies u8v w' A l ∧ Below w.heap.size w w' := by
  obtain ⟨A, n, c, rfl, rfl, h1, h2⟩ := h
  obtain ⟨g1, g2, _, g4⟩ := own_at h1
  exact ⟨A, c, rfl, g1, g2, g4, h2⟩
theorem words_pair {w w' : World} {x y : UInt8} {e : Ending} (h : WordsPost w [x, y] e w') : ∃ b o c, e = .returned (.tuple #[.slice (some ⟨b, o, none⟩) 1 c, .bool true]) ∧ w'.cell? ⟨b, o, none⟩ = some (u16v (Word.word x y)) ∧ Below w.heap.size w w' := by
  obtain ⟨A, n, c, rfl, h1, h2, h3, h4, h5, _⟩ := h
  have e1 : Word.isWords [x, y] = true := by simp [Word.isWords]
  have e2 : Word.ansWords [x, y] = [Word.word x y] := by simp [Word.ansWords, Word.isWords, Word.words, Word.wordAt, List.range_succ]
  rw [e2] at h1 h4
  obtain rfl : 1 = n := h1
  obtain ⟨b, o, rfl, hc⟩ := h4 0 (by simp)
  exact ⟨b, o, c, by rw [e1], hc, h5⟩

set_option maxRecDepth 100000 in
set_option maxHeartbeats 400000 in
theorem cut6_none (A : Option Addr) (n c sz : Nat) (b : List UInt8) (h1 : n < sz) (_hs : sz ≤ 2) (w : World) :
    Calls Tryz.prog 90 #[.slice A n c, .int .i64 (sz : Int)] w (CutPost w A b n sz) := by
  have i1 : (n : Int) < (sz : Int) := by omega
  go_enter Tryz.func90, Tryz.ntmps90
  go_wp2_with fail
  refine bodyPost_ret_by (v := .tuple #[.int .i64 0, .slice none 0 0, .bool false]) (by simp [results, Tryz.f90, go_sem]) rfl ?_
  exact ⟨Below.refl _ _, by rw [if_pos h1]⟩

set_option maxRecDepth 100000 in
set_option maxHeartbeats 1000000 in
theorem cut6_one (A : Option Addr) (n c : Nat) (b : List UInt8) (hn : b.length = n) (hnc : n ≤ c) (hc : c ≤ maxLen) (hm : n ≤ 20000) (w : World) (hb : Lies u8v w A b) (h1 : 1 ≤ n) :
    Calls Tryz.prog 90 #[.slice A n c, .int .i64 1] w (CutPost w A b n 1) := by
  obtain ⟨b1, o1, rfl, hlt, hcs⟩ := hb.at_ (by omega)
  have i1 : ¬ (n : Int) < 1 := by omega
  have i2 : (1 : Int) ≤ (n : Int) := by omega
  have i3 : (1 : Int) ≤ (c : Int) := by omega
  have i4 : IntKind.i64.wrap 1 = 1 := by decide
  have hmk := fun w => make8_run 1 (by omega) w
  rw [show madeCells #[Value.int .u8 0] 1 = #[.int .u8 0] by rw [← Array.toList_inj]; simp [toList_madeCells_one]] at hmk
  simp only [Int.cast_ofNat_Int] at hmk
  obtain ⟨X, hX, hXL⟩ := slice_off (f := u8v) (some ⟨b1, o1, none⟩) n c 1 b hn h1 hnc
  simp only [Int.cast_ofNat_Int] at hX
  have htk : [0] ++ b.take 1 = [0, b.getD 0 0] := by
    rcases b with _ | ⟨x, _ | ⟨y, r⟩⟩
    · simp at hn; omega
    · simp at hn; first | rfl | omega
    · rfl
  have hbw : Below w.heap.size w ((w.alloc (.cells #[.int .u8 0] 5)).alloc (.cells #[.slice (some ⟨w.heap.size, 0, none⟩) 1 1, .slice (some ⟨b1, o1, none⟩) 1 c] 31)) := ((Below.refl _ w).alloc (Nat.le_refl _) _).alloc (by simp) _
  have HC : Hid (Calls Tryz.prog 124 #[.slice (some ⟨w.heap.size + 1, 0, none⟩) 2 2] ((w.alloc (.cells #[.int .u8 0] 5)).alloc (.cells #[.slice (some ⟨w.heap.size, 0, none⟩) 1 1, .slice (some ⟨b1, o1, none⟩) 1 c] 31)).drew fun e w' => ∃ A c, e = .returned (.slice A 2 c) ∧ 2 ≤ c ∧ c ≤ maxLen ∧ Lies u8v w' A [0, b.getD 0 0] ∧ Below w.heap.size w w') := Lib.hid (by
    have hr := row_at (w.alloc (.cells #[.int .u8 0] 5)) #[.slice (some ⟨w.heap.size, 0, none⟩) 1 1, .slice (some ⟨b1, o1, none⟩) 1 c] 31 (w.heap.size + 1) (by simp)
    have hrow := row_two hr
    have hz : Lies u8v (w.alloc (.cells #[.int .u8 0] 5)) (some ⟨w.heap.size, 0, none⟩) ([0] : List UInt8) := lies_new (f := u8v) w _ _ _ (by simp)
    refine (concat_two (w.heap.size + 1) _ _ 1 1 1 c [0] (b.take 1) rfl (by rw [List.length_take]; omega) (by omega) ((w.alloc (.cells #[.int .u8 0] 5)).alloc (.cells #[.slice (some ⟨w.heap.size, 0, none⟩) 1 1, .slice (some ⟨b1, o1, none⟩) 1 c] 31)).drew hrow.1 hrow.2.1 (hz.alloc _).drew ((hb.take 1).below hbw (Nat.le_refl _)).drew).mono ?_
    intro e w' h
    rw [htk] at h
    obtain ⟨A', c', rfl, g1, g2, g3, g4⟩ := h.at_
    exact ⟨A', c', rfl, g1, g2, g3, (drewN_below hbw 1).trans (g4.mono hbw.size)⟩)
  have HW : Hid (∀ (A : Option Addr) (c : Nat) (W : World), 2 ≤ c → Lies u8v W A [0, b.getD 0 0] → Below w.heap.size w W → Calls Tryz.prog 116 #[.slice A 2 c] W fun e w' => ∃ b2 o2 c2, e = .returned (.tuple #[.slice (some ⟨b2, o2, none⟩) 1 c2, .bool true]) ∧ w'.cell? ⟨b2, o2, none⟩ = some (u16v (Word.word 0 (b.getD 0 0))) ∧ Below w.heap.size w w') := Lib.hid (fun A c W hc hl hB => (words_any A 2 c [0, b.getD 0 0] rfl hc (by omega) W hl).mono fun e w' h => by
    obtain ⟨b2, o2, c2, rfl, g1, g2⟩ := words_pair h
    exact ⟨b2, o2, c2, rfl, g1, hB.trans (g2.mono hB.size)⟩)
  have HL := Lib.hid hXL
  have HN : Hid ((b.drop 1).length = n - 1) := Lib.hid (by rw [List.length_drop, hn])
  have HV : Hid (cutN b 1 = Word.word 0 (b.getD 0 0)) := Lib.hid rfl
  have hv := (Word.word 0 (b.getD 0 0)).toNat_lt
  have HP : Hid (¬ n < 1) := Lib.hid (by omega)
  clear hb hcs hbw htk hXL hn h1
  go_enter Tryz.func90, Tryz.ntmps90
  go_wp2_with fail
  go_region_held3 (fun _ => True) (trivial) (first | (go_at_call 124; (with_reducible refine HC.out.mono ?_); rintro e w' ⟨A3, c3, rfl, hk1, hk2, hk3, hk4⟩) | (go_at_call 116; (with_reducible refine (HW.out _ _ _ hk1 hk3 hk4).mono ?_); rintro e w' ⟨b2, o2, c2, rfl, hk5, hk6⟩) | fail)
  all_goals (
    generalize Word.word 0 (b.getD 0 0) = V at *
    unfold u16v at hk5
    clear hk3 hk4
    go_wp2_with fail
    go_quiet (fail)
    go_wp2_with fail
    refine bodyPost_ret_by (v := .tuple #[.int .i64 (V.toNat : Int), .slice X (n - 1) (c - 1), .bool true]) (by simp [results, Tryz.f90, go_sem]) rfl ?_
    refine ⟨?_, ?_⟩
    · first | exact hk6 | exact drewN_below hk6 _
    · rw [if_neg HP.out]
      exact ⟨X, _, _, by rw [HV.out], HN.out, by omega, by omega, HL.out⟩)

set_option maxRecDepth 100000 in
set_option maxHeartbeats 1000000 in
theorem cut6_two (A : Option Addr) (n c : Nat) (b : List UInt8) (hn : b.length = n) (hnc : n ≤ c) (hc : c ≤ maxLen) (hm : n ≤ 20000) (w : World) (hb : Lies u8v w A b) (h1 : 2 ≤ n) :
    Calls Tryz.prog 90 #[.slice A n c, .int .i64 2] w (CutPost w A b n 2) := by
  obtain ⟨b1, o1, rfl, hlt, hcs⟩ := hb.at_ (by omega)
  have i1 : ¬ (n : Int) < 2 := by omega
  have i2 : (2 : Int) ≤ (n : Int) := by omega
  have i3 : (2 : Int) ≤ (c : Int) := by omega
  have i4 : IntKind.i64.wrap 0 = 0 := by decide
  have hmk := fun w => make8_run 0 (by omega) w
  rw [show madeCells #[Value.int .u8 0] 0 = #[] by rw [← Array.toList_inj]; simp [toList_madeCells_one]] at hmk
  simp only [Int.cast_ofNat_Int] at hmk
  obtain ⟨X, hX, hXL⟩ := slice_off (f := u8v) (some ⟨b1, o1, none⟩) n c 2 b hn h1 hnc
  simp only [Int.cast_ofNat_Int] at hX
  have htk : [] ++ b.take 2 = [b.getD 0 0, b.getD 1 0] := by
    rcases b with _ | ⟨x, _ | ⟨y, r⟩⟩
    · simp at hn; omega
    · simp at hn; first | rfl | omega
    · rfl
  have hbw : Below w.heap.size w ((w.alloc (.cells #[] 5)).alloc (.cells #[.slice (some ⟨w.heap.size, 0, none⟩) 0 0, .slice (some ⟨b1, o1, none⟩) 2 c] 31)) := ((Below.refl _ w).alloc (Nat.le_refl _) _).alloc (by simp) _
  have HC : Hid (Calls Tryz.prog 124 #[.slice (some ⟨w.heap.size + 1, 0, none⟩) 2 2] ((w.alloc (.cells #[] 5)).alloc (.cells #[.slice (some ⟨w.heap.size, 0, none⟩) 0 0, .slice (some ⟨b1, o1, none⟩) 2 c] 31)).drew fun e w' => ∃ A c, e = .returned (.slice A 2 c) ∧ 2 ≤ c ∧ c ≤ maxLen ∧ Lies u8v w' A [b.getD 0 0, b.getD 1 0] ∧ Below w.heap.size w w') := Lib.hid (by
    have hr := row_at (w.alloc (.cells #[] 5)) #[.slice (some ⟨w.heap.size, 0, none⟩) 0 0, .slice (some ⟨b1, o1, none⟩) 2 c] 31 (w.heap.size + 1) (by simp)
    have hrow := row_two hr
    have hz : Lies u8v (w.alloc (.cells #[] 5)) (some ⟨w.heap.size, 0, none⟩) ([] : List UInt8) := lies_new (f := u8v) w _ _ _ (by simp)
    refine (concat_two (w.heap.size + 1) _ _ 0 2 0 c [] (b.take 2) rfl (by rw [List.length_take]; omega) (by omega) ((w.alloc (.cells #[] 5)).alloc (.cells #[.slice (some ⟨w.heap.size, 0, none⟩) 0 0, .slice (some ⟨b1, o1, none⟩) 2 c] 31)).drew hrow.1 hrow.2.1 (hz.alloc _).drew ((hb.take 2).below hbw (Nat.le_refl _)).drew).mono ?_
    intro e w' h
    rw [htk] at h
    obtain ⟨A', c', rfl, g1, g2, g3, g4⟩ := h.at_
    exact ⟨A', c', rfl, g1, g2, g3, (drewN_below hbw 1).trans (g4.mono hbw.size)⟩)
  have HW : Hid (∀ (A : Option Addr) (c : Nat) (W : World), 2 ≤ c → Lies u8v W A [b.getD 0 0, b.getD 1 0] → Below w.heap.size w W → Calls Tryz.prog 116 #[.slice A 2 c] W fun e w' => ∃ b2 o2 c2, e = .returned (.tuple #[.slice (some ⟨b2, o2, none⟩) 1 c2, .bool true]) ∧ w'.cell? ⟨b2, o2, none⟩ = some (u16v (Word.word (b.getD 0 0) (b.getD 1 0))) ∧ Below w.heap.size w w') := Lib.hid (fun A c W hc hl hB => (words_any A 2 c [b.getD 0 0, b.getD 1 0] rfl hc (by omega) W hl).mono fun e w' h => by
    obtain ⟨b2, o2, c2, rfl, g1, g2⟩ := words_pair h
    exact ⟨b2, o2, c2, rfl, g1, hB.trans (g2.mono hB.size)⟩)
  have HL := Lib.hid hXL
  have HN : Hid ((b.drop 2).length = n - 2) := Lib.hid (by rw [List.length_drop, hn])
  have HV : Hid (cutN b 2 = Word.word (b.getD 0 0) (b.getD 1 0)) := Lib.hid rfl
  have hv := (Word.word (b.getD 0 0) (b.getD 1 0)).toNat_lt
  have HP : Hid (¬ n < 2) := Lib.hid (by omega)
  clear hb hcs hbw htk hXL hn h1
  go_enter Tryz.func90, Tryz.ntmps90
  go_wp2_with fail
  go_region_held3 (fun _ => True) (trivial) (first | (go_at_call 124; (with_reducible refine HC.out.mono ?_); rintro e w' ⟨A3, c3, rfl, hk1, hk2, hk3, hk4⟩) | (go_at_call 116; (with_reducible refine (HW.out _ _ _ hk1 hk3 hk4).mono ?_); rintro e w' ⟨b2, o2, c2, rfl, hk5, hk6⟩) | fail)
  all_goals (
    generalize Word.word (b.getD 0 0) (b.getD 1 0) = V at *
    unfold u16v at hk5
    clear hk3 hk4
    go_wp2_with fail
    go_quiet (fail)
    go_wp2_with fail
    refine bodyPost_ret_by (v := .tuple #[.int .i64 (V.toNat : Int), .slice X (n - 2) (c - 2), .bool true]) (by simp [results, Tryz.f90, go_sem]) rfl ?_
    refine ⟨?_, ?_⟩
    · first | exact hk6 | exact drewN_below hk6 _
    · rw [if_neg HP.out]
      exact ⟨X, _, _, by rw [HV.out], HN.out, by omega, by omega, HL.out⟩)

theorem cut6_any (A : Option Addr) (n c sz : Nat) (hs : sz = 1 ∨ sz = 2) (b : List UInt8) (hn : b.length = n) (hnc : n ≤ c) (hc : c ≤ maxLen) (hm : n ≤ 20000) (w : World) (hb : Lies u8v w A b) :
    Calls Tryz.prog 90 #[.slice A n c, .int .i64 (sz : Int)] w (CutPost w A b n sz) := by
  by_cases h : n < sz
  · exact cut6_none A n c sz b h (by omega) w
  · rcases hs with rfl | rfl
    · exact cut6_one A n c b hn hnc hc hm w hb (by omega)
    · exact cut6_two A n c b hn hnc hc hm w hb (by omega)
end Go.Proofs.YtcbkbdoaaaofjaaGreat
