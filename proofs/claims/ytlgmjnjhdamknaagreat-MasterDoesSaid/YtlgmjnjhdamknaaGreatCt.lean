
/- A part of the proof of the law MasterDoes. -/
import Derived.Test.YtlgmjnjhdamknaaGreatMem
import Derived.Test.YtlgmjnjhdamknaaGreatBeq
import Derived.Deep.RegionHeld3
import Derived.Deep.OwnRows
import Derived.Shelf.GgClosure.Gives
namespace Go.Proofs.YtlgmjnjhdamknaaGreat
open Go.RowKit Go.Shelf

def cutN (b : List UInt8) (sz : Nat) : UInt16 := if sz = 1 then Word.word 0 (b.getD 0 0) else Word.word (b.getD 0 0) (b.getD 1 0)
def CutPost (w : World) (A : Option Addr) (b : List UInt8) (n sz : Nat) (e : Ending) (w' : World) : Prop :=
  Below w.heap.size w w' ∧ (if n < sz then e = .returned (.tuple #[.int .i64 0, .slice none 0 0, .bool false])
    else ∃ A' m c', e = .returned (.tuple #[.int .i64 ((cutN b sz).toNat : Int), .slice A' m c', .bool true]) ∧ (b.drop sz).length = m ∧ m ≤ c' ∧ c' ≤ maxLen ∧ ∀ W, Lies u8v W A b → Lies u8v W A' (b.drop sz))

theorem make8_run (n : Nat) (hn : n ≤ 2) (w : World) :
    (Instr.makeSlice 41 (.int .i64 (n : Int)) (.int .i64 (n : Int))).run Tryz.prog w = .ok (.slice (some ⟨w.heap.size, 0, none⟩) n n) (w.alloc (.cells (madeCells #[.int .u8 0] n) 5)) :=
  Go.run_make_row' 41 5 (.int .u8 0) 1 kit8.ht kit8.hi rfl .i64 .i64 n (by omega) (by omega) w
set_option maxRecDepth 100000 in
theorem slice_off {α : Type} {f : α → Value} (A : Option Addr) (n c i : Nat) (l : List α) (hl : l.length = n) (hi : i ≤ n) (hc : n ≤ c) :
    ∃ X, (∀ w, (Instr.slice 41 (.slice A n c) (some (.int .i64 (i : Int))) none none).run Tryz.prog w = .ok (.slice X (n - i) (c - i)) w) ∧ ∀ W, Lies f W A l → Lies f W X (l.drop i) := by
  refine ⟨if c = i then A else A.map (·.add i), fun w => ?_, fun W h => ?_⟩
  · rw [run_slice_l w 41 A n c (by kernel_rfl) .i64 i (by omega) (by omega), show (sizeOf (Tryz.prog.elem 41)).run Tryz.prog w = .ok 1 w by kernel_rfl]
    simp [Result.andThen, sliced]
  · intro j hj
    rw [List.length_drop] at hj
    obtain ⟨b, off, rfl, _⟩ := h j (by omega)
    rw [if_neg (by omega)]
    have hadd : (⟨b, off, none⟩ : Addr).add i = ⟨b, off + i, none⟩ := by unfold Addr.add; split <;> simp_all
    simp only [Option.map_some, hadd]
    exact (h.drop i) j (by rw [List.length_drop]; exact hj)
theorem OwnBytes.at_ {w w' : World} {l : List UInt8} {e : Ending} (h : OwnBytes w l e w') : ∃ A c, e = .returned (.slice A l.length c) ∧ l.length ≤ c ∧ c ≤ maxLen ∧ Lies u8v w' A l ∧ Below w.heap.size w w' := by
  obtain ⟨A, n, c, rfl, rfl, h1, h2⟩ := h
  obtain ⟨g1, g2, _, g4⟩ := own_at h1
  exact ⟨A, c, rfl, g1, g2, g4, h2⟩
theorem words_pair {w w' : World} {x y : UInt8} {e : Ending} (h : WordsPost w [x, y] e w') : ∃ b o c, e = .returned (.tuple #[.slice (some ⟨b, o, none⟩) 1 c, .bool true]) ∧ w'.cell? ⟨b, o, none⟩ = some (u16v (Word.word x y)) ∧ Below w.heap.size w w' := by
  obtain ⟨A, n, c, rfl, h1, h2, h3, h4, h5, _⟩ := h
  have e1 : Word.isWords [x, y] = true := by simp [Word.isWords]
  have e2 : Word.ansWords [x, y] = [Word.word x y] := by simp [Word.ansWords, Word.isWords, Word.words, Word.wordAt, List.range_succ]
  rw [e2] at h1 h4
  obtain rfl : 1 = n := h1
  obtain ⟨b, o, rfl, hc⟩ := h4 0 (by simp)
  exact ⟨b, o, c, by rw [e1], hc, h5⟩

set_option maxRecDepth 100000 in
set_option maxHeartbeats 400000 in
theorem cut6_none (A : Option Addr) (n c sz : Nat) (b : List UInt8) (h1 : n < sz) (_hs : sz ≤ 2) (w : World) :
    Calls Tryz.prog 118 #[.slice A n c, .int .i64 (sz : Int)] w (CutPost w A b n sz) := by
  have i1 : (n : Int) < (sz : Int) := by omega
  go_enter Tryz.func118, Tryz.ntmps118
  go_wp2_with fail
  refine bodyPost_ret_by (v := .tuple #[.int .i64 0, .slice none 0 0, .bool false]) (by simp [results, Tryz.f118, go_sem]) rfl ?_
  exact ⟨Below.refl _ _, by rw [if_pos h1]⟩

set_option maxRecDepth 100000 in
set_option maxHeartbeats 1000000 in
theorem cut6_one (A : Option Addr) (n c : Nat) (b : List UInt8) (hn : b.length = n) (hnc : n ≤ c) (hc : c ≤ maxLen) (hm : n ≤ 20000) (w : World) (hb : Lies u8v w A b) (h1 : 1 ≤ n) :
    Calls Tryz.prog 118 #[.slice A n c, .int .i64 1] w (CutPost w A b n 1) := by
  obtain ⟨b1, o1, rfl, hlt, hcs⟩ := hb.at_ (by omega)
  have i1 : ¬ (n : Int) < 1 := by omega
  have i2 : (1 : Int) ≤ (n : Int) := by omega
  have i3 : (1 : Int) ≤ (c : Int) := by omega
  have i4 : IntKind.i64.wrap 1 = 1 := by decide
  have hmk := fun w => make8_run 1 (by omega) w
  rw [show madeCells #[Value.int .u8 0] 1 = #[.int .u8 0] by rw [← Array.toList_inj]; simp [toList_madeCells_one]] at hmk
  simp only [Int.cast_ofNat_Int] at hmk
  obtain ⟨X, hX, hXL⟩ := slice_off (f := u8v) (some ⟨b1, o1, none⟩) n c 1 b hn h1 hnc
  simp only [Int.cast_ofNat_Int] at hX
  have htk : [0] ++ b.take 1 = [0, b.getD 0 0] := by
    rcases b with _ | ⟨x, _ | ⟨y, r⟩⟩
    · simp at hn; omega
    · simp at hn; first | rfl | omega
    · rfl
  have hbw : Below w.heap.size w ((w.alloc (.cells #[.int .u8 0] 5)).alloc (.cells #[.slice (some ⟨w.heap.size, 0, none⟩) 1 1, .slice (some ⟨b1, o1, none⟩) 1 c] 41)) := ((Below.refl _ w).alloc (zq _) _).alloc (by simp) _
  have HC : Hid (Calls Tryz.prog 153 #[.slice (some ⟨w.heap.size + 1, 0, none⟩) 2 2] ((w.alloc (.cells #[.int .u8 0] 5)).alloc (.cells #[.slice (some ⟨w.heap.size, 0, none⟩) 1 1, .slice (some ⟨b1, o1, none⟩) 1 c] 41)).drew fun e w' => ∃ A c, e = .returned (.slice A 2 c) ∧ 2 ≤ c ∧ c ≤ maxLen ∧ Lies u8v w' A [0, b.getD 0 0] ∧ Below w.heap.size w w') := qh (by
    have hr := row_at (w.alloc (.cells #[.int .u8 0] 5)) #[.slice (some ⟨w.heap.size, 0, none⟩) 1 1, .slice (some ⟨b1, o1, none⟩) 1 c] 41 (w.heap.size + 1) (by simp)
    have hrow := row_two hr
    have hz : Lies u8v (w.alloc (.cells #[.int .u8 0] 5)) (some ⟨w.heap.size, 0, none⟩) ([0] : List UInt8) := lies_new (f := u8v) w _ _ _ (by simp)
    refine (concat_two (w.heap.size + 1) _ _ 1 1 1 c [0] (b.take 1) rfl (by rw [List.length_take]; omega) (by omega) ((w.alloc (.cells #[.int .u8 0] 5)).alloc (.cells #[.slice (some ⟨w.heap.size, 0, none⟩) 1 1, .slice (some ⟨b1, o1, none⟩) 1 c] 41)).drew hrow.1 hrow.2.1 (hz.alloc _).drew ((hb.take 1).below hbw (zq _)).drew).mono ?_
    intro e w' h
    rw [htk] at h
    obtain ⟨A', c', rfl, g1, g2, g3, g4⟩ := h.at_
    exact ⟨A', c', rfl, g1, g2, g3, (drewN_below hbw 1).trans (g4.mono hbw.size)⟩)
  have HW : Hid (∀ (A : Option Addr) (c : Nat) (W : World), 2 ≤ c → Lies u8v W A [0, b.getD 0 0] → Below w.heap.size w W → Calls Tryz.prog 152 #[.slice A 2 c] W fun e w' => ∃ b2 o2 c2, e = .returned (.tuple #[.slice (some ⟨b2, o2, none⟩) 1 c2, .bool true]) ∧ w'.cell? ⟨b2, o2, none⟩ = some (u16v (Word.word 0 (b.getD 0 0))) ∧ Below w.heap.size w w') := qh (fun A c W hc hl hB => (words_any A 2 c [0, b.getD 0 0] rfl hc (by omega) W hl).mono fun e w' h => by
    obtain ⟨b2, o2, c2, rfl, g1, g2⟩ := words_pair h
    exact ⟨b2, o2, c2, rfl, g1, hB.trans (g2.mono hB.size)⟩)
  have HL := qh hXL
  have HN : Hid ((b.drop 1).length = n - 1) := qh (by rw [List.length_drop, hn])
  have HV : Hid (cutN b 1 = Word.word 0 (b.getD 0 0)) := qh rfl
  have hv := (Word.word 0 (b.getD 0 0)).toNat_lt
  have HP : Hid (¬ n < 1) := qh (by omega)
  clear hb hcs hbw htk hXL hn h1
  go_enter Tryz.func118, Tryz.ntmps118
  go_wp2_with fail
  go_region_held3 (fun _ => True) (trivial) (first | (go_at_call 153; (with_reducible refine HC.out.mono ?_); rintro e w' ⟨A3, c3, rfl, hk1, hk2, hk3, hk4⟩) | (go_at_call 152; (with_reducible refine (HW.out _ _ _ hk1 hk3 hk4).mono ?_); rintro e w' ⟨b2, o2, c2, rfl, hk5, hk6⟩) | fail)
  all_goals (
    generalize Word.word 0 (b.getD 0 0) = V at *
    unfold u16v at hk5
    clear hk3 hk4
    go_wp2_with fail
    go_quiet (fail)
    go_wp2_with fail
    refine bodyPost_ret_by (v := .tuple #[.int .i64 (V.toNat : Int), .slice X (n - 1) (c - 1), .bool true]) (by simp [results, Tryz.f118, go_sem]) rfl ?_
    refine ⟨?_, ?_⟩
    · first | exact hk6 | exact drewN_below hk6 _
    · rw [if_neg HP.out]
      exact ⟨X, _, _, by rw [HV.out], HN.out, by omega, by omega, HL.out⟩)

set_option maxRecDepth 100000 in
set_option maxHeartbeats 1000000 in
theorem cut6_two (A : Option Addr) (n c : Nat) (b : List UInt8) (hn : b.length = n) (hnc : n ≤ c) (hc : c ≤ maxLen) (hm : n ≤ 20000) (w : World) (hb : Lies u8v w A b) (h1 : 2 ≤ n) :
    Calls Tryz.prog 118 #[.slice A n c, .int .i64 2] w (CutPost w A b n 2) := by
  obtain ⟨b1, o1, rfl, hlt, hcs⟩ := hb.at_ (by omega)
  have i1 : ¬ (n : Int) < 2 := by omega
  have i2 : (2 : Int) ≤ (n : Int) := by omega
  have i3 : (2 : Int) ≤ (c : Int) := by omega
  have i4 : IntKind.i64.wrap 0 = 0 := by decide
  have hmk := fun w => make8_run 0 (by omega) w
  rw [show madeCells #[Value.int .u8 0] 0 = #[] by rw [← Array.toList_inj]; simp [toList_madeCells_one]] at hmk
  simp only [Int.cast_ofNat_Int] at hmk
  obtain ⟨X, hX, hXL⟩ := slice_off (f := u8v) (some ⟨b1, o1, none⟩) n c 2 b hn h1 hnc
  simp only [Int.cast_ofNat_Int] at hX
  have htk : [] ++ b.take 2 = [b.getD 0 0, b.getD 1 0] := by
    rcases b with _ | ⟨x, _ | ⟨y, r⟩⟩
    · simp at hn; omega
    · simp at hn; first | rfl | omega
    · rfl
  have hbw : Below w.heap.size w ((w.alloc (.cells #[] 5)).alloc (.cells #[.slice (some ⟨w.heap.size, 0, none⟩) 0 0, .slice (some ⟨b1, o1, none⟩) 2 c] 41)) := ((Below.refl _ w).alloc (zq _) _).alloc (by simp) _
  have HC : Hid (Calls Tryz.prog 153 #[.slice (some ⟨w.heap.size + 1, 0, none⟩) 2 2] ((w.alloc (.cells #[] 5)).alloc (.cells #[.slice (some ⟨w.heap.size, 0, none⟩) 0 0, .slice (some ⟨b1, o1, none⟩) 2 c] 41)).drew fun e w' => ∃ A c, e = .returned (.slice A 2 c) ∧ 2 ≤ c ∧ c ≤ maxLen ∧ Lies u8v w' A [b.getD 0 0, b.getD 1 0] ∧ Below w.heap.size w w') := qh (by
    have hr := row_at (w.alloc (.cells #[] 5)) #[.slice (some ⟨w.heap.size, 0, none⟩) 0 0, .slice (some ⟨b1, o1, none⟩) 2 c] 41 (w.heap.size + 1) (by simp)
    have hrow := row_two hr
    have hz : Lies u8v (w.alloc (.cells #[] 5)) (some ⟨w.heap.size, 0, none⟩) ([] : List UInt8) := lies_new (f := u8v) w _ _ _ (by simp)
    refine (concat_two (w.heap.size + 1) _ _ 0 2 0 c [] (b.take 2) rfl (by rw [List.length_take]; omega) (by omega) ((w.alloc (.cells #[] 5)).alloc (.cells #[.slice (some ⟨w.heap.size, 0, none⟩) 0 0, .slice (some ⟨b1, o1, none⟩) 2 c] 41)).drew hrow.1 hrow.2.1 (hz.alloc _).drew ((hb.take 2).below hbw (zq _)).drew).mono ?_
    intro e w' h
    rw [htk] at h
    obtain ⟨A', c', rfl, g1, g2, g3, g4⟩ := h.at_
    exact ⟨A', c', rfl, g1, g2, g3, (drewN_below hbw 1).trans (g4.mono hbw.size)⟩)
  have HW : Hid (∀ (A : Option Addr) (c : Nat) (W : World), 2 ≤ c → Lies u8v W A [b.getD 0 0, b.getD 1 0] → Below w.heap.size w W → Calls Tryz.prog 152 #[.slice A 2 c] W fun e w' => ∃ b2 o2 c2, e = .returned (.tuple #[.slice (some ⟨b2, o2, none⟩) 1 c2, .bool true]) ∧ w'.cell? ⟨b2, o2, none⟩ = some (u16v (Word.word (b.getD 0 0) (b.getD 1 0))) ∧ Below w.heap.size w w') := qh (fun A c W hc hl hB => (words_any A 2 c [b.getD 0 0, b.getD 1 0] rfl hc (by omega) W hl).mono fun e w' h => by
    obtain ⟨b2, o2, c2, rfl, g1, g2⟩ := words_pair h
    exact ⟨b2, o2, c2, rfl, g1, hB.trans (g2.mono hB.size)⟩)
  have HL := qh hXL
  have HN : Hid ((b.drop 2).length = n - 2) := qh (by rw [List.length_drop, hn])
  have HV : Hid (cutN b 2 = Word.word (b.getD 0 0) (b.getD 1 0)) := qh rfl
  have hv := (Word.word (b.getD 0 0) (b.getD 1 0)).toNat_lt
  have HP : Hid (¬ n < 2) := qh (by omega)
  clear hb hcs hbw htk hXL hn h1
  go_enter Tryz.func118, Tryz.ntmps118
  go_wp2_with fail
  go_region_held3 (fun _ => True) (trivial) (first | (go_at_call 153; (with_reducible refine HC.out.mono ?_); rintro e w' ⟨A3, c3, rfl, hk1, hk2, hk3, hk4⟩) | (go_at_call 152; (with_reducible refine (HW.out _ _ _ hk1 hk3 hk4).mono ?_); rintro e w' ⟨b2, o2, c2, rfl, hk5, hk6⟩) | fail)
  all_goals (
    generalize Word.word (b.getD 0 0) (b.getD 1 0) = V at *
    unfold u16v at hk5
    clear hk3 hk4
    go_wp2_with fail
    go_quiet (fail)
    go_wp2_with fail
    refine bodyPost_ret_by (v := .tuple #[.int .i64 (V.toNat : Int), .slice X (n - 2) (c - 2), .bool true]) (by simp [results, Tryz.f118, go_sem]) rfl ?_
    refine ⟨?_, ?_⟩
    · first | exact hk6 | exact drewN_below hk6 _
    · rw [if_neg HP.out]
      exact ⟨X, _, _, by rw [HV.out], HN.out, by omega, by omega, HL.out⟩)

theorem cut6_any (A : Option Addr) (n c sz : Nat) (hs : sz = 1 ∨ sz = 2) (b : List UInt8) (hn : b.length = n) (hnc : n ≤ c) (hc : c ≤ maxLen) (hm : n ≤ 20000) (w : World) (hb : Lies u8v w A b) :
    Calls Tryz.prog 118 #[.slice A n c, .int .i64 (sz : Int)] w (CutPost w A b n sz) := by
  by_cases h : n < sz
  · exact cut6_none A n c sz b h (by omega) w
  · rcases hs with rfl | rfl
    · exact cut6_one A n c b hn hnc hc hm w hb (by omega)
    · exact cut6_two A n c b hn hnc hc hm w hb (by omega)
end Go.Proofs.YtlgmjnjhdamknaaGreat

namespace Go.Proofs.YtlgmjnjhdamknaaGreat
open Go.RowKit Go.Shelf

theorem IF.cell (f : IF) (a : Ask) (h k : Option Addr × Nat × Nat) : (askCells a h k)[f.ix]? = some (.int .i64 (f.get a)) := by cases f <;> rfl
theorem UF.cell (f : UF) (a : Ask) (h k : Option Addr × Nat × Nat) : (askCells a h k)[f.ix]? = some (u16v (f.get a)) := by cases f <;> rfl
theorem box_cell (W : World) (cs : Array Value) (t : TypeId) (i : Nat) (v : Value) (h : cs[i]? = some v) : (W.alloc (.cells cs t)).cell? ⟨W.heap.size, i, none⟩ = some v := by
  rw [cell_of_row _ _ _ _ _ _ (row_at W cs t _ rfl)]
  exact h
theorem askV_eq (a : Ask) (h k : Option Addr × Nat × Nat) : askV a h k = .agg #[.int .i64 a.code, .int .i64 a.addr, .int .i64 a.count, .int .i64 a.to, .slice h.1 h.2.1 h.2.2, .slice k.1 k.2.1 k.2.2, u16v a.and_, u16v a.or_] := rfl

set_option maxRecDepth 100000 in
set_option maxHeartbeats 400000 in
theorem numFits (f : IF) (gof : Nat) (O : OfOK gof f.ix) (b0 b2 b3 : Nat) (lo hi : Int) (W : World) (c0 : W.cell? ⟨b0, 0, none⟩ = some (.func (.func gof) #[] #[])) (c2 : W.cell? ⟨b2, 0, none⟩ = some (.int .i64 lo)) (c3 : W.cell? ⟨b3, 0, none⟩ = some (.int .i64 hi)) (a : Ask) (h k : Option Addr × Nat × Nat) :
    Calls Tryz.prog 147 #[askV a h k, .pointer (some ⟨b0, 0, none⟩), .pointer (some ⟨b2, 0, none⟩), .pointer (some ⟨b3, 0, none⟩)] W fun e w' => e = .returned (.bool (decide (lo ≤ f.get a) && decide (f.get a ≤ hi))) ∧ Below W.heap.size W w' := by
  have eg := O.en
  have hO := O.ca
  have hc := box_cell W (askCells a h k) 40 _ _ (IF.cell f a h k)
  unfold askCells at hc
  generalize f.get a = n at *
  generalize f.ix = i at *
  have l0 := World.block_lt_of_cell? _ _ c0
  have l2 := World.block_lt_of_cell? _ _ c2
  have l3 := World.block_lt_of_cell? _ _ c3
  unfold Enters at eg
  rw [askV_eq]
  by_cases g1 : lo ≤ n
  · by_cases g2 : n ≤ hi
    · go_enter Tryz.func147, Tryz.ntmps147
      go_wp2_with (go_at_fn gof; refine (hO _ _).mono ?_; rintro e w' ⟨rfl, rfl⟩)
      go_ret
      exact ⟨by simp [g1, g2], (Below.refl _ _).alloc (zq _) _⟩
    · go_enter Tryz.func147, Tryz.ntmps147
      go_wp2_with (go_at_fn gof; refine (hO _ _).mono ?_; rintro e w' ⟨rfl, rfl⟩)
      go_ret
      exact ⟨by simp [g1], (Below.refl _ _).alloc (zq _) _⟩
  · go_enter Tryz.func147, Tryz.ntmps147
    go_wp2_with (go_at_fn gof; refine (hO _ _).mono ?_; rintro e w' ⟨rfl, rfl⟩)
    go_ret
    exact ⟨by simp; omega, (Below.refl _ _).alloc (zq _) _⟩
end Go.Proofs.YtlgmjnjhdamknaaGreat

namespace Go.Proofs.YtlgmjnjhdamknaaGreat
open Go.RowKit Go.Shelf

theorem AskIn.but {S : List Nat} {w w' : World} {a : Ask} {h k : Option Addr × Nat × Nat} (x : AskIn w a h k) (hb : But S w w') (fh : ∀ b o s, h.1 = some ⟨b, o, s⟩ → 0 < h.2.1 → b ∉ S) (fk : ∀ b o s, k.1 = some ⟨b, o, s⟩ → 0 < k.2.1 → b ∉ S) : AskIn w' a h k :=
  ⟨x.hn, x.hc, x.hm, x.hl.but hb (fun b o s e h0 => fh b o s e (by rw [← x.hn]; exact h0)), x.kn, x.kc, x.km, x.kl.but hb (fun b o s e h0 => fk b o s e (by rw [← x.kn]; exact h0))⟩

structure AskAt (w : World) (q : Nat) (S : Nat → Prop) (a : Ask) (h k : Option Addr × Nat × Nat) : Prop where
  row : w.heap[q]? = some (.cells (askCells a h k) 40 (0, 0))
  ins : AskIn w a h k
  sq : S q
  sl : ∀ b, S b → b < w.heap.size
  fh : ∀ b o s, h.1 = some ⟨b, o, s⟩ → 0 < h.2.1 → ¬ S b
  fk : ∀ b o s, k.1 = some ⟨b, o, s⟩ → 0 < k.2.1 → ¬ S b

section
variable {w w' : World} {q : Nat} {S : Nat → Prop} {a : Ask} {h k : Option Addr × Nat × Nat}
theorem AskAt.lt (x : AskAt w q S a h k) : q < w.heap.size := row_lt x.row
theorem AskAt.below (x : AskAt w q S a h k) (hb : Below w.heap.size w w') : AskAt w' q S a h k := ⟨row_later x.row hb, x.ins.below hb, x.sq, fun b hs => Nat.lt_of_lt_of_le (x.sl b hs) hb.size, x.fh, x.fk⟩
theorem AskAt.cell (x : AskAt w q S a h k) {i : Nat} {v : Value} (e : (askCells a h k)[i]? = some v) : w.cell? ⟨q, i, none⟩ = some v := by
  rw [cell_of_row _ _ _ _ _ _ x.row]
  exact e
theorem AskAt.free (x : AskAt w q S a h k) (i : Nat) : w.frozen? ⟨q, i, none⟩ = false := by
  simp [World.frozen?, x.row]
theorem But.one (w : World) (q i : Nat) (v : Value) : But [q] w (w.setCell ⟨q, i, none⟩ v) := (But.refl _ _).setCell (p := ⟨q, i, none⟩) (.inl (List.mem_singleton.2 rfl)) v
theorem AskAt.store (x : AskAt w q S a h k) {i : Nat} {v : Value} {a' : Ask} {h' k' : Option Addr × Nat × Nat} (e : (askCells a h k).setIfInBounds i v = askCells a' h' k') (hi : AskIn w a' h' k')
    (fh : ∀ b o s, h'.1 = some ⟨b, o, s⟩ → 0 < h'.2.1 → ¬ S b) (fk : ∀ b o s, k'.1 = some ⟨b, o, s⟩ → 0 < k'.2.1 → ¬ S b) : AskAt (w.setCell ⟨q, i, none⟩ v) q S a' h' k' :=
  ⟨by rw [row_set x.row, e], hi.but (But.one w q i v) (fun b o s e1 h0 hm => fh b o s e1 h0 (List.mem_singleton.1 hm ▸ x.sq)) (fun b o s e1 h0 hm => fk b o s e1 h0 (List.mem_singleton.1 hm ▸ x.sq)), x.sq, fun b hs => by rw [show (w.setCell ⟨q, i, none⟩ v).heap.size = w.heap.size by simp [World.setCell]]; exact x.sl b hs, fh, fk⟩
theorem AskIn.of (x : AskIn w a h k) {a' : Ask} (e1 : a'.words = a.words) (e2 : a'.bits = a.bits) : AskIn w a' h k :=
  ⟨by rw [e1]; exact x.hn, x.hc, x.hm, by rw [e1]; exact x.hl, by rw [e2]; exact x.kn, x.kc, x.km, by rw [e2]; exact x.kl⟩
theorem AskAt.setI (x : AskAt w q S a h k) (f : IF) (n : Int) : AskAt (w.setCell ⟨q, f.ix, none⟩ (.int .i64 n)) q S (f.set a n) h k :=
  x.store (by cases f <;> rfl) (x.ins.of (by cases f <;> rfl) (by cases f <;> rfl)) x.fh x.fk
theorem AskAt.setU (x : AskAt w q S a h k) (f : UF) (n : UInt16) : AskAt (w.setCell ⟨q, f.ix, none⟩ (u16v n)) q S (f.set a n) h k :=
  x.store (by cases f <;> rfl) (x.ins.of (by cases f <;> rfl) (by cases f <;> rfl)) x.fh x.fk
theorem AskAt.setW (x : AskAt w q S a h k) (l : List UInt16) (A : Option Addr) (n c : Nat) (h1 : l.length = n) (h2 : n ≤ c) (h3 : c ≤ maxLen) (h4 : Lies u16v w A l) (h5 : ∀ b o s, A = some ⟨b, o, s⟩ → 0 < n → ¬ S b) :
    AskAt (w.setCell ⟨q, 4, none⟩ (.slice A n c)) q S { a with words := l } (A, n, c) k :=
  x.store rfl ⟨h1, h2, h3, h4, x.ins.kn, x.ins.kc, x.ins.km, x.ins.kl⟩ h5 x.fk
theorem AskAt.setB (x : AskAt w q S a h k) (l : List Bool) (A : Option Addr) (n c : Nat) (h1 : l.length = n) (h2 : n ≤ c) (h3 : c ≤ maxLen) (h4 : Lies bitv w A l) (h5 : ∀ b o s, A = some ⟨b, o, s⟩ → 0 < n → ¬ S b) :
    AskAt (w.setCell ⟨q, 5, none⟩ (.slice A n c)) q S { a with bits := l } h (A, n, c) :=
  x.store rfl ⟨x.ins.hn, x.ins.hc, x.ins.hm, x.ins.hl, h1, h2, h3, h4⟩ x.fh h5
end

inductive PK
  | num (f : IF) (sz : Nat) (lo hi : Int)
  | mask (f : UF)
  | bit
  | word
  | bits (m : Nat)
  | words (m : Nat)
namespace PK
def fits (a : Ask) : PK → Bool
  | num f _ lo hi => decide (lo ≤ f.get a) && decide (f.get a ≤ hi)
  | mask _ => true
  | bit => a.bits.length == 1
  | word => a.words.length == 1
  | bits m => decide (1 ≤ a.bits.length) && decide (a.bits.length ≤ m)
  | words m => decide (1 ≤ a.words.length) && decide (a.words.length ≤ m)
def drop (a : Ask) : PK → Ask
  | num f _ _ _ => f.set a 0
  | mask f => f.set a 0
  | bit => { a with bits := [] }
  | word => { a with words := [] }
  | bits _ => { a with bits := [] }
  | words _ => { a with words := [] }
def out (a : Ask) : PK → List UInt8
  | num f sz _ _ => low (UInt16.ofNat (f.get a).toNat) sz
  | mask f => low (f.get a) 2
  | bit => low (if a.bits.getD 0 false then 65280 else 0) 2
  | word => low (a.words.getD 0 0) 2
  | bits _ => low (UInt16.ofNat a.bits.length) 2 ++ (low (UInt16.ofNat ((a.bits.length + 7) / 8)) 1 ++ Word.pack a.bits)
  | words _ => low (UInt16.ofNat a.words.length) 2 ++ (low (UInt16.ofNat (2 * a.words.length)) 1 ++ Word.bytes a.words)
def read (b : List UInt8) (a : Ask) : PK → Option (List UInt8 × Ask)
  | num f sz _ _ => if b.length < sz then none else some (b.drop sz, f.set a ((cutN b sz).toNat : Int))
  | mask f => if b.length < 2 then none else some (b.drop 2, f.set a (cutN b 2))
  | bit => if b.length < 2 then none else if cutN b 2 = 65280 then some (b.drop 2, { a with bits := [true] }) else if cutN b 2 = 0 then some (b.drop 2, { a with bits := [false] }) else none
  | word => if b.length < 2 then none else some (b.drop 2, { a with words := [cutN b 2] })
  | bits _ => if b.length < 2 then none else if (b.drop 2).length < 1 then none else if ((b.drop 2).drop 1).length < (cutN (b.drop 2) 1).toNat then none else
      if Word.isBitsI (((b.drop 2).drop 1).take (cutN (b.drop 2) 1).toNat) ((cutN b 2).toNat : Nat) then some (((b.drop 2).drop 1).drop (cutN (b.drop 2) 1).toNat, { a with bits := Word.bitsOf (((b.drop 2).drop 1).take (cutN (b.drop 2) 1).toNat) (cutN b 2).toNat }) else none
  | words _ => if b.length < 2 then none else if (b.drop 2).length < 1 then none else if ((b.drop 2).drop 1).length < (cutN (b.drop 2) 1).toNat then none else
      if Word.isWords (((b.drop 2).drop 1).take (cutN (b.drop 2) 1).toNat) && decide ((Word.words (((b.drop 2).drop 1).take (cutN (b.drop 2) 1).toNat)).length = (cutN b 2).toNat) then some (((b.drop 2).drop 1).drop (cutN (b.drop 2) 1).toNat, { a with words := Word.words (((b.drop 2).drop 1).take (cutN (b.drop 2) 1).toNat) }) else none
def Fine : PK → Prop
  | num _ sz lo hi => (sz = 1 ∨ sz = 2) ∧ 0 ≤ lo ∧ hi ≤ 65535
  | bits m => m ≤ 1968
  | words m => m ≤ 123
  | _ => True
end PK

def ReadPost (w0 W : World) (q : Nat) (S : Nat → Prop) (p : PK) (b : List UInt8) (a : Ask) (e : Ending) (w' : World) : Prop :=
  ∃ A' n' c' ok a' h' k', e = .returned (.tuple #[.slice A' n' c', .bool ok]) ∧ AskAt w' q S a' h' k' ∧ But [q] W w' ∧
    (match p.read b a with
     | none => ok = false
     | some (r, a2) => ok = true ∧ a' = a2 ∧ r.length = n' ∧ n' ≤ c' ∧ c' ≤ maxLen ∧ Lies u8v w0 A' r)
theorem ReadPost.no {w0 W w' : World} {q : Nat} {S : Nat → Prop} {p : PK} {b : List UInt8} {a a' : Ask} {h' k' : Option Addr × Nat × Nat} (A' : Option Addr) (n' c' : Nat) (hr : p.read b a = none) (hA : AskAt w' q S a' h' k') (hb : But [q] W w') : ReadPost w0 W q S p b a (.returned (.tuple #[.slice A' n' c', .bool false])) w' :=
  ⟨A', n', c', false, a', h', k', rfl, hA, hb, by rw [hr]⟩
theorem ReadPost.yes {w0 W w' : World} {q : Nat} {S : Nat → Prop} {p : PK} {b r : List UInt8} {a a' : Ask} {h' k' : Option Addr × Nat × Nat} {A' : Option Addr} {n' c' : Nat} (hr : p.read b a = some (r, a')) (hA : AskAt w' q S a' h' k') (hb : But [q] W w') (h1 : r.length = n') (h2 : n' ≤ c') (h3 : c' ≤ maxLen) (h4 : Lies u8v w0 A' r) : ReadPost w0 W q S p b a (.returned (.tuple #[.slice A' n' c', .bool true])) w' :=
  ⟨A', n', c', true, a', h', k', rfl, hA, hb, by rw [hr]; exact ⟨rfl, rfl, h1, h2, h3, h4⟩⟩

structure PartOK (w0 : World) (p : PK) (g1 g2 g3 g4 : Nat) (l1 l2 l3 l4 : Array Value) : Prop where
  fine : p.Fine
  e1 : Enters Tryz.prog g1
  e2 : Enters Tryz.prog g2
  e3 : Enters Tryz.prog g3
  e4 : Enters Tryz.prog g4
  c1 : ∀ W, Below w0.heap.size w0 W → ∀ a h k, AskIn W a h k → Calls Tryz.prog g1 (#[askV a h k] ++ l1) W fun e w' => e = .returned (.bool (p.fits a)) ∧ Below W.heap.size W w'
  c2 : ∀ Wa W, Below w0.heap.size w0 Wa → Below Wa.heap.size Wa W → ∀ a h k, AskIn Wa a h k → p.fits a = true → ∀ (B : Nat) (v : Value) (n : Nat) (xs : List UInt8), W.ownsRow B 5 1 v n (xs.map u8v) → Wa.heap.size ≤ B → B ≤ W.heap.size → n ≤ 10000 →
    Calls Tryz.prog g2 (#[v, askV a h k] ++ l2) W fun e w' => ∃ A m c, e = .returned (.slice A m c) ∧ w'.ownsRow B 5 1 (.slice A m c) m ((xs ++ p.out a).map u8v) ∧ Below B W w'
  c3 : ∀ W, Below w0.heap.size w0 W → ∀ (A : Option Addr) (n c : Nat) (b : List UInt8), b.length = n → n ≤ c → c ≤ maxLen → n ≤ 10000 → Lies u8v w0 A b → ∀ q S a h k, w0.heap.size ≤ q → AskAt W q S a h k →
    Calls Tryz.prog g3 (#[.slice A n c, .pointer (some ⟨q, 0, none⟩)] ++ l3) W (ReadPost w0 W q S p b a)
  c4 : ∀ W, Below w0.heap.size w0 W → ∀ q S a h k, w0.heap.size ≤ q → AskAt W q S a h k →
    Calls Tryz.prog g4 (#[.pointer (some ⟨q, 0, none⟩)] ++ l4) W fun e w' => (∃ v, e = .returned v) ∧ ∃ h' k', AskAt w' q S (p.drop a) h' k' ∧ But [q] W w'
end Go.Proofs.YtlgmjnjhdamknaaGreat
