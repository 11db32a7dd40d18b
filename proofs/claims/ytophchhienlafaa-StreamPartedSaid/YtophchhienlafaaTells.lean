/-
  The law StreamTells, walked: it answers true, and nothing that was there is touched.
-/
import Derived.Test.YtophchhienlafaaAll
import Derived.Deep.QuietTactic
import Derived.BigQuiet
namespace Go.Proofs.Ytophchhienlafaa
open Go.RowKit

/-- What came in: slices of bytes in a row. -/
def PartsAt (w : World) (A : Option Addr) (l : List (List UInt8)) : Prop :=
  ∀ j (hj : j < l.length), ∃ b off C n c, A = some ⟨b, off, none⟩ ∧ w.cell? ⟨b, off + j, none⟩ = some (.slice C n c) ∧ l[j].length = n ∧ n ≤ c ∧ c ≤ maxLen ∧ Lies u8v w C l[j]
theorem PartsAt.below {w w' : World} {A : Option Addr} {l : List (List UInt8)} {B : Nat} (h : PartsAt w A l) (hb : Below B w w') (hB : w.heap.size ≤ B) : PartsAt w' A l := fun j hj => by
  obtain ⟨b, off, C, n, c, h1, h2, h3, h4, h5, h6⟩ := h j hj
  exact ⟨b, off, C, n, c, h1, (hb.cell (p := ⟨b, off + j, none⟩) (Nat.lt_of_lt_of_le (World.block_lt_of_cell? w _ h2) hB)).trans h2, h3, h4, h5, h6.below hb hB⟩
def sizes : List (List UInt8) → Nat
  | [] => 0
  | x :: l => x.length + 1 + sizes l
theorem sizes_append : ∀ (l m : List (List UInt8)), sizes (l ++ m) = sizes l + sizes m
  | [], m => by simp [sizes]
  | x :: l, m => by simp [sizes, sizes_append l m]; omega
theorem sizes_take (l : List (List UInt8)) (j : Nat) (hj : j < l.length) : sizes (l.take (j + 1)) = sizes (l.take j) + l[j].length + 1 := by
  rw [List.take_succ_eq_append_getElem hj, sizes_append]
  simp [sizes]
  omega
theorem sizes_le (l : List (List UInt8)) (j : Nat) : sizes (l.take j) ≤ sizes l := by
  have := sizes_append (l.take j) (l.drop j)
  rw [List.take_append_drop] at this
  omega
theorem sizes_len : ∀ (l : List (List UInt8)), l.length ≤ sizes l
  | [] => Nat.le_refl _
  | x :: l => by have := sizes_len l; simp [sizes]; omega

/-- What stands at the head of the second loop. -/
def TellsInv (w : World) (g gr : Nat) (l : List (List UInt8)) (i : Value) (wr : World) : Prop :=
  ∃ (j : Nat) (b : List UInt8) (bad : Bool) (S : List Nat), j ≤ l.length ∧ i = .int .i64 j ∧ StAt wr g b bad S ∧ RS (fun k => k ∉ S ∧ w.heap.size ≤ k) wr gr b bad ∧ gr ∉ S ∧ (∀ k ∈ S, w.heap.size ≤ k) ∧ b.length ≤ sizes (l.take j) ∧ Below w.heap.size w wr
theorem RS.cells {F : Nat → Prop} {w : World} {g : Nat} {b : List UInt8} {bad : Bool} (h : RS F w g b bad) : ∃ A n c, w.cell? ⟨g, 0, none⟩ = some (.slice A n c) ∧ w.cell? ⟨g, 1, none⟩ = some (.bool bad) ∧ b.length = n := by
  obtain ⟨A, n, c, h1, h2, _⟩ := h
  exact ⟨A, n, c, (row_two' h1).1, (row_two' h1).2, h2⟩

set_option maxRecDepth 100000 in
set_option maxHeartbeats 4000000 in
theorem tells_any (A : Option Addr) (n c : Nat) (l : List (List UInt8)) (hn : l.length = n) (hm : n ≤ maxLen) (hbig : ∀ x ∈ l, x.length ≤ 140737488355328) (w : World) (h : PartsAt w A l) :
    Calls Try.prog 3 #[.slice A n c] w fun e w' => e = .returned (.bool true) ∧ Below w.heap.size w w' := by
  subst hn
  unfold maxLen at hm
  go_enter Try.func3, Try.ntmps3
  go_wp2_with fail
  refine (awake_any _).mono ?_
  rintro e w1 ⟨rfl, hb1⟩
  go_wp2_with fail
  go_loopw [4, 5] (fun s i wr => ∃ j : Nat, j ≤ l.length ∧ i = .int .i64 j ∧ s = .int .i64 (sizes (l.take j)) ∧ wr = w1) (fun _ i _ => l.length - (intOf i).toNat)
  case atStart => exact ⟨0, Nat.zero_le _, rfl, rfl, rfl⟩
  case round =>
    obtain ⟨j, hj, rfl, rfl, rfl⟩ := hrel
    have hp := h.below hb1 (Nat.le_refl _)
    have hz1 := hb1.size
    by_cases hgo : j < l.length ∧ sizes (l.take j) < 10000
    · obtain ⟨hlt, hs⟩ := hgo
      obtain ⟨b1, o1, C, n, c', rfl, hc1, hn1, _, _, _⟩ := hp j hlt
      have hltw := World.block_lt_of_cell? _ _ hc1
      have hn2 : n ≤ 140737488355328 := by rw [← hn1]; exact hbig _ (List.getElem_mem _)
      have HS : Hid (sizes (l.take (j + 1)) = sizes (l.take j) + n + 1) := Lib.hid (by rw [sizes_take l j hlt, hn1])
      have HP : Hid (sizes (l.take j) < 10000) := Lib.hid hs
      generalize sizes (l.take j) = s0 at *
      have i1 : (j : Int) < (l.length : Int) := by omega
      have i2 : (s0 : Int) < 10000 := by omega
      have i3 : IntKind.i64.wrap ((s0 : Int) + (n : Int)) = (s0 : Int) + (n : Int) := by rw [IntKind.wrap_i64]; omega
      have i4 : IntKind.i64.wrap ((s0 : Int) + (n : Int) + 1) = (s0 : Int) + (n : Int) + 1 := by rw [IntKind.wrap_i64]; omega
      go_wp2
      go_roundw
      case rel => exact ⟨j + 1, by omega, by go_num, by rw [HS.out]; go_num, trivial⟩
      case measure => simp [intOf]; omega
    · by_cases hlt : j < l.length
      · have hs : 10000 ≤ sizes (l.take j) := by omega
        have i1 : (j : Int) < (l.length : Int) := by omega
        generalize sizes (l.take j) = s0 at *
        have i2 : ¬ (s0 : Int) < 10000 := by omega
        have i3 : (3000 : Int) < (s0 : Int) := by omega
        go_wp2_with fail
        refine (new5_any wr).mono ?_
        rintro e w2 ⟨g, S, rfl, hs2, hS2, hb2⟩
        have hbw2 := hb1.trans (hb2.mono hz1)
        have hz2 := hbw2.size
        go_wp2_with fail
        go_ret
        exact ⟨rfl, hbw2.alloc hz2 _⟩
      · obtain rfl : j = l.length := by omega
        rw [List.take_length] at *
        have hsz : Hid (sizes l = sizes l) := Lib.hid rfl
        by_cases h3 : 3000 < sizes l
        · generalize sizes l = s0 at *
          have i3 : (3000 : Int) < (s0 : Int) := by omega
          by_cases h4 : s0 < 10000
          · have i2 : (s0 : Int) < 10000 := by omega
            go_wp2_with fail
            refine (new5_any wr).mono ?_
            rintro e w2 ⟨g, S, rfl, hs2, hS2, hb2⟩
            have hbw2 := hb1.trans (hb2.mono hz1)
            have hz2 := hbw2.size
            go_wp2_with fail
            go_ret
            exact ⟨rfl, hbw2.alloc hz2 _⟩
          · have i2 : ¬ (s0 : Int) < 10000 := by omega
            go_wp2_with fail
            refine (new5_any wr).mono ?_
            rintro e w2 ⟨g, S, rfl, hs2, hS2, hb2⟩
            have hbw2 := hb1.trans (hb2.mono hz1)
            have hz2 := hbw2.size
            go_wp2_with fail
            go_ret
            exact ⟨rfl, hbw2.alloc hz2 _⟩
        · have i2 : (sizes l : Int) < 10000 := by omega
          have i3 : ¬ (3000 : Int) < (sizes l : Int) := by omega
          go_wp2_with fail
          refine (new5_any wr).mono ?_
          rintro e w2 ⟨g, S, rfl, hs2, hS2, hb2⟩
          have hbw2 := hb1.trans (hb2.mono hz1)
          have hz2 := hbw2.size
          go_wp2_with fail
          have hS2l := hs2.own
          have hrow := row_at w2 #[.slice none 0 0, .bool false] 29 w2.heap.size rfl
          have hb3 : Below w2.heap.size w2 (w2.alloc (.cells #[.slice none 0 0, .bool false] 29)) := (Below.refl _ _).alloc (Nat.le_refl _) _
          have hs3 := hs2.below hb3
          have hbw3 := hbw2.trans (hb3.mono hz2)
          obtain ⟨gr, hgr⟩ : ∃ k, w2.heap.size = k := ⟨_, rfl⟩
          have hrs3 : RS (fun k => k ∉ S ∧ w.heap.size ≤ k) (w2.alloc (.cells #[.slice none 0 0, .bool false] 29)) gr [] false := ⟨none, 0, 0, by rw [← hgr]; exact hrow, rfl, Nat.le_refl _, Nat.zero_le _, Lies.nil _ _, by rintro _ _ _ h; cases h⟩
          have hgS : gr ∉ S := fun hm => by have := hS2l _ hm; omega
          have hgw : w.heap.size ≤ gr := by omega
          have hSw : ∀ k ∈ S, w.heap.size ≤ k := fun k hk => by have := hS2 k hk; omega
          generalize w2.alloc (.cells #[.slice none 0 0, .bool false] 29) = w3 at *
          rw [hgr]
          clear hs2 hS2 hb2 hbw2 hz2 hS2l hrow hb3 hgr hp hz1 hgo hlt hb1
          go_loopw [8] (fun i wr => TellsInv w g gr l i wr) (fun i _ => l.length - (intOf i).toNat)
          case atStart => exact ⟨0, [], false, S, Nat.zero_le _, rfl, hs3, hrs3, hgS, hSw, by simp, hbw3⟩
          case round =>
            obtain ⟨j, b, bad, S, hj, rfl, hs, hrs, hgS, hSw, hbl, hbe⟩ := hrel
            have hz := hbe.size
            by_cases hlt : j < l.length
            · have hp := h.below hbe (Nat.le_refl _)
              obtain ⟨b1, o1, C, n, c', rfl, hc1, hn1, hnc, hcm, hLC⟩ := hp j hlt
              have hltw := World.block_lt_of_cell? _ _ hc1
              have i1 : (j : Int) < (l.length : Int) := by omega
              cases bad with
              | true =>
                go_wp2_with fail
                refine (take5_bad g S C n c' b _ hs).mono ?_
                rintro e w4 ⟨rfl, hb4⟩
                have hs4 := hs.below hb4
                have hrs4 := hrs.below hb4
                have hbe4 := hbe.trans (hb4.mono hz)
                have hc4 := (hb4.cell (p := ⟨b1, o1 + j, none⟩) hltw).trans hc1
                have hlt4 : b1 < w4.heap.size := Nat.lt_of_lt_of_le hltw hb4.size
                have hz4 := hbe4.size
                clear hs hrs hc1 hltw hb4 hbe hz hp
                go_wp2_with fail
                refine (rtake5_bad gr C n c' b w4 hrs4).mono ?_
                rintro e w5 ⟨rfl, rfl⟩
                go_wp2_with fail
                refine (own5_any none 0 0 [] rfl (by omega) w5 (FrsBy.nil (fun _ => True) _ _)).mono ?_
                rintro e w6 ⟨A6, n6, c6, vs6, rfl, hn6, hown6, hfr6, hb6⟩
                obtain rfl : n6 = 0 := hn6.symm
                have hs6 := hs4.below hb6
                have hrs6 := hrs4.below hb6
                have hbe6 := hbe4.trans (hb6.mono hz4)
                have hz6 := hbe6.size
                clear hs4 hrs4 hbe4 hz4 hc4 hlt4
                go_wp2_with fail
                refine (rsames5_any A6 none 0 0 c6 0 [] [] rfl rfl (by unfold maxLen; omega) w6 (FrsBy.nil _ _ _) (FrsBy.nil _ _ _)).mono ?_
                rintro e w7 ⟨rfl, hb7⟩
                have hs7 := hs6.below hb7
                have hrs7 := hrs6.below hb7
                have hbe7 := hbe6.trans (hb7.mono hz6)
                clear hs6 hrs6 hbe6 hz6 hown6 hfr6 hb6 hb7
                rw [decide_eq_true (rfl : ([] : List Fr) = [])]
                have hH : ∀ n, Calls Try.prog 12 #[.pointer (some ⟨g, 0, none⟩)] (w7.drewN n) fun e w'' => e = .returned (.int .i64 (b.length : Int)) ∧ ∃ m, w'' = w7.drewN m := fun n => Calls.quiet_of_same (held5_any g S _ _ _ (hs7.drewN n))
                have hB : ∀ n, Calls Try.prog 13 #[.pointer (some ⟨g, 0, none⟩)] (w7.drewN n) fun e w'' => e = .returned (.bool true) ∧ ∃ m, w'' = w7.drewN m := fun n => Calls.quiet_of_same (broken5_any g S _ _ _ (hs7.drewN n))
                obtain ⟨Ab, nb, cb, hq0, hq1, hlb⟩ := hrs7.cells
                rw [hlb] at hH
                have hltr := hrs7.row
                go_wp2_with fail
                go_quiet (first | (go_at_call 12; exact hH _) | (go_at_call 13; exact hB _))
                go_wp2
                go_roundw
                case rel => exact ⟨j + 1, b, true, S, by omega, by go_num, hs7.drewN _, hrs7.below (drewN_below (Below.refl _ _) _), hgS, hSw, by rw [sizes_take l j hlt]; omega, drewN_below hbe7 _⟩
                case measure => simp [intOf]; omega
              | false =>
                have hbn : b.length + n ≤ 60000 := by
                  have h1 := sizes_le l (j + 1)
                  rw [sizes_take l j hlt, hn1] at h1
                  omega
                have hfarC : ∀ b' o s, C = some ⟨b', o, s⟩ → 0 < n → b' ∉ S := by
                  intro b' o s e h0 hm
                  obtain ⟨_, _, C2, n2, c2, e2, hd, hn2, _, _, hL2⟩ := h j hlt
                  cases e2
                  have hd' := (hbe.cell (p := ⟨b1, o1 + j, none⟩) (World.block_lt_of_cell? w _ hd)).trans hd
                  rw [hc1] at hd'
                  simp only [Option.some.injEq, Value.slice.injEq] at hd'
                  obtain ⟨rfl, rfl, rfl⟩ := hd'
                  obtain ⟨_, _, e3, hc3⟩ := hL2 0 (by omega)
                  rw [e] at e3
                  cases e3
                  have h5 : b' < w.heap.size := World.block_lt_of_cell? w _ hc3
                  have := hSw _ hm
                  omega
                have hcnt := Stm.cut_count (b ++ l[j])
                rw [List.length_append] at hcnt
                have hjl : l[j].length = n := hn1
                have hC2 : ∀ {w' : World}, Below w.heap.size wr w' → True := fun _ => trivial
                obtain ⟨fs, b', bad', hcut⟩ : ∃ fs b' bad', Stm.cut (b ++ l[j]) = (fs, b', bad') := ⟨_, _, _, rfl⟩
                rw [hcut] at hcnt
                have hrsl := hrs.row
                go_wp2_with fail
                refine (take5_any g S C n c' b l[j] hn1 hnc hbn wr hs hLC hfarC).mono ?_
                rintro e w4 ⟨Aa, na, ka, S4, rfl, hfa, hs4, hS4, hb4⟩
                rw [hcut] at hfa hs4 ⊢
                cases bad' with
                | true =>
                  rw [if_pos rfl]
                  have hbb4 : Below w.heap.size wr w4 := hb4.below hSw hz
                  have hbe4 := hbe.trans hbb4
                  have hrs4 : RS (fun k => k ∉ S4 ∧ w.heap.size ≤ k) w4 gr b false := hrs.move (hb4.block gr hrsl hgS) fun k hk hkl => ⟨hb4.block k hkl hk.1, fun hm => by rcases hS4 k hm with h1 | h1; exact hk.1 h1; omega, hk.2⟩
                  have hg4 : gr ∉ S4 := fun hm => by rcases hS4 gr hm with h1 | h1; exact hgS h1; omega
                  have hS4w : ∀ k ∈ S4, w.heap.size ≤ k := fun k hk => by rcases hS4 k hk with h1 | h1; exact hSw k h1; omega
                  have hS4l := hs4.own
                  have hp4 := h.below hbe4 (Nat.le_refl _)
                  obtain ⟨b2, o2, C4, n4, c4, e4, hc4, hn4, hnc4, hcm4, hLC4⟩ := hp4 j hlt
                  cases e4
                  have hlt4 : b1 < w4.heap.size := World.block_lt_of_cell? _ _ hc4
                  have hz4 := hbe4.size
                  have hfa4 := hfa.lt
                  clear hs hrs hfarC hLC hc1 hltw hb4 hbb4 hbe hz hp hfa hS4
                  go_wp2_with fail
                  refine (rtake5_any gr C4 n4 c4 b l[j] hn4 (by omega) w4 hrs4 hLC4).mono ?_
                  rintro e w5 ⟨Ar, nr, kr, rfl, hnr, hnkr, hkmr, hfr5, hrs5', hb5⟩
                  rw [hcut] at hnr hfr5 hrs5' ⊢
                  rw [if_pos rfl]
                  have hrs5 : RS (fun k => k ∉ S4 ∧ w.heap.size ≤ k) w5 gr b' true := hrs5'.move rfl fun k hk _ => ⟨rfl, fun hm => by have := hS4l k hm; omega, by omega⟩
                  have hs5 : StAt w5 g b' true S4 := hs4.but hb5 (fun k hk hm => by simp at hm; subst hm; exact hg4 hk)
                  have hbe5 := hbe4.trans (hb5.below (fun k hk => by simp at hk; omega) hz4)
                  have hfa5 := hfa4.but hb5 (fun k hk hm => by simp at hm; omega)
                  have hz5 := hbe5.size
                  have hna := hfa5.1
                  clear hs4 hrs4 hrs5' hb5 hfa4 hLC4 hc4 hlt4 hp4 hbe4 hz4 hS4l
                  go_wp2_with fail
                  refine (own5_any Aa na ka fs hna (by omega) w5 hfa5.at_).mono ?_
                  rintro e w6 ⟨A6, n6, c6, vs6, rfl, hn6, hown6, hfr6, hb6⟩
                  obtain ⟨_, _, _, hc6⟩ := ownN_at hown6
                  have hq1 : FrsAt w6 A6 fs := ⟨_, hc6, hfr6.move fun _ _ _ => ⟨rfl, trivial⟩⟩
                  have hq2 : FrsAt w6 Ar fs := FrsBy.below hfr5 hb6 (Nat.le_refl _)
                  have hs6 := hs5.below hb6
                  have hrs6 := hrs5.below hb6
                  have hbe6 := hbe5.trans (hb6.mono hz5)
                  have hz6 := hbe6.size
                  clear hs5 hrs5 hbe5 hz5 hfr5 hfa5 hown6 hfr6 hc6 hb6
                  go_wp2_with fail
                  refine (rsames5_any A6 Ar n6 nr c6 kr fs fs hn6 hnr (by unfold maxLen; omega) w6 hq1 hq2).mono ?_
                  rintro e w7 ⟨rfl, hb7⟩
                  have hs7 := hs6.below hb7
                  have hrs7 := hrs6.below hb7
                  have hbe7 := hbe6.trans (hb7.mono hz6)
                  clear hs6 hrs6 hbe6 hz6 hq1 hq2 hb7
                  rw [decide_eq_true (rfl : fs = fs)]
                  have hH : ∀ n, Calls Try.prog 12 #[.pointer (some ⟨g, 0, none⟩)] (w7.drewN n) fun e w'' => e = .returned (.int .i64 (b'.length : Int)) ∧ ∃ m, w'' = w7.drewN m := fun n => Calls.quiet_of_same (held5_any g S4 _ _ _ (hs7.drewN n))
                  have hB : ∀ n, Calls Try.prog 13 #[.pointer (some ⟨g, 0, none⟩)] (w7.drewN n) fun e w'' => e = .returned (.bool true) ∧ ∃ m, w'' = w7.drewN m := fun n => Calls.quiet_of_same (broken5_any g S4 _ _ _ (hs7.drewN n))
                  obtain ⟨Ab, nb, cb, hq0, hq1, hlb⟩ := hrs7.cells
                  rw [hlb] at hH
                  have hltr := hrs7.row
                  go_wp2_with fail
                  go_quiet (first | (go_at_call 12; exact hH _) | (go_at_call 13; exact hB _))
                  go_wp2
                  go_roundw
                  case rel => exact ⟨j + 1, b', true, S4, by omega, by go_num, hs7.drewN _, hrs7.below (drewN_below (Below.refl _ _) _), hg4, hS4w, by rw [sizes_take l j hlt]; omega, drewN_below hbe7 _⟩
                  case measure => simp [intOf]; omega
                | false =>
                  rw [if_neg (show ¬ (fs, b', false).2.2 = true from Bool.false_ne_true)]
                  have hbb4 : Below w.heap.size wr w4 := hb4.below hSw hz
                  have hbe4 := hbe.trans hbb4
                  have hrs4 : RS (fun k => k ∉ S4 ∧ w.heap.size ≤ k) w4 gr b false := hrs.move (hb4.block gr hrsl hgS) fun k hk hkl => ⟨hb4.block k hkl hk.1, fun hm => by rcases hS4 k hm with h1 | h1; exact hk.1 h1; omega, hk.2⟩
                  have hg4 : gr ∉ S4 := fun hm => by rcases hS4 gr hm with h1 | h1; exact hgS h1; omega
                  have hS4w : ∀ k ∈ S4, w.heap.size ≤ k := fun k hk => by rcases hS4 k hk with h1 | h1; exact hSw k h1; omega
                  have hS4l := hs4.own
                  have hp4 := h.below hbe4 (Nat.le_refl _)
                  obtain ⟨b2, o2, C4, n4, c4, e4, hc4, hn4, hnc4, hcm4, hLC4⟩ := hp4 j hlt
                  cases e4
                  have hlt4 : b1 < w4.heap.size := World.block_lt_of_cell? _ _ hc4
                  have hz4 := hbe4.size
                  have hfa4 := hfa.lt
                  clear hs hrs hfarC hLC hc1 hltw hb4 hbb4 hbe hz hp hfa hS4
                  go_wp2_with fail
                  refine (rtake5_any gr C4 n4 c4 b l[j] hn4 (by omega) w4 hrs4 hLC4).mono ?_
                  rintro e w5 ⟨Ar, nr, kr, rfl, hnr, hnkr, hkmr, hfr5, hrs5', hb5⟩
                  rw [hcut] at hnr hfr5 hrs5' ⊢
                  rw [if_neg (show ¬ (fs, b', false).2.2 = true from Bool.false_ne_true)]
                  have hrs5 : RS (fun k => k ∉ S4 ∧ w.heap.size ≤ k) w5 gr b' false := hrs5'.move rfl fun k hk _ => ⟨rfl, fun hm => by have := hS4l k hm; omega, by omega⟩
                  have hs5 : StAt w5 g b' false S4 := hs4.but hb5 (fun k hk hm => by simp at hm; subst hm; exact hg4 hk)
                  have hbe5 := hbe4.trans (hb5.below (fun k hk => by simp at hk; omega) hz4)
                  have hfa5 := hfa4.but hb5 (fun k hk hm => by simp at hm; omega)
                  have hz5 := hbe5.size
                  have hna := hfa5.1
                  clear hs4 hrs4 hrs5' hb5 hfa4 hLC4 hc4 hlt4 hp4 hbe4 hz4 hS4l
                  go_wp2_with fail
                  refine (own5_any Aa na ka fs hna (by omega) w5 hfa5.at_).mono ?_
                  rintro e w6 ⟨A6, n6, c6, vs6, rfl, hn6, hown6, hfr6, hb6⟩
                  obtain ⟨_, _, _, hc6⟩ := ownN_at hown6
                  have hq1 : FrsAt w6 A6 fs := ⟨_, hc6, hfr6.move fun _ _ _ => ⟨rfl, trivial⟩⟩
                  have hq2 : FrsAt w6 Ar fs := FrsBy.below hfr5 hb6 (Nat.le_refl _)
                  have hs6 := hs5.below hb6
                  have hrs6 := hrs5.below hb6
                  have hbe6 := hbe5.trans (hb6.mono hz5)
                  have hz6 := hbe6.size
                  clear hs5 hrs5 hbe5 hz5 hfr5 hfa5 hown6 hfr6 hc6 hb6
                  go_wp2_with fail
                  refine (rsames5_any A6 Ar n6 nr c6 kr fs fs hn6 hnr (by unfold maxLen; omega) w6 hq1 hq2).mono ?_
                  rintro e w7 ⟨rfl, hb7⟩
                  have hs7 := hs6.below hb7
                  have hrs7 := hrs6.below hb7
                  have hbe7 := hbe6.trans (hb7.mono hz6)
                  clear hs6 hrs6 hbe6 hz6 hq1 hq2 hb7
                  rw [decide_eq_true (rfl : fs = fs)]
                  have hH : ∀ n, Calls Try.prog 12 #[.pointer (some ⟨g, 0, none⟩)] (w7.drewN n) fun e w'' => e = .returned (.int .i64 (b'.length : Int)) ∧ ∃ m, w'' = w7.drewN m := fun n => Calls.quiet_of_same (held5_any g S4 _ _ _ (hs7.drewN n))
                  have hB : ∀ n, Calls Try.prog 13 #[.pointer (some ⟨g, 0, none⟩)] (w7.drewN n) fun e w'' => e = .returned (.bool false) ∧ ∃ m, w'' = w7.drewN m := fun n => Calls.quiet_of_same (broken5_any g S4 _ _ _ (hs7.drewN n))
                  obtain ⟨Ab, nb, cb, hq0, hq1, hlb⟩ := hrs7.cells
                  rw [hlb] at hH
                  have hltr := hrs7.row
                  go_wp2_with fail
                  go_quiet (first | (go_at_call 12; exact hH _) | (go_at_call 13; exact hB _))
                  go_wp2
                  go_roundw
                  case rel => exact ⟨j + 1, b', false, S4, by omega, by go_num, hs7.drewN _, hrs7.below (drewN_below (Below.refl _ _) _), hg4, hS4w, by rw [sizes_take l j hlt]; omega, drewN_below hbe7 _⟩
                  case measure => simp [intOf]; omega
            · obtain rfl : j = l.length := by omega
              go_wp2
              go_ret
              exact ⟨rfl, hbe⟩
end Go.Proofs.Ytophchhienlafaa
