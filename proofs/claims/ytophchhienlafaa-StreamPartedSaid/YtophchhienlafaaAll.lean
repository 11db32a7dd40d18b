/-
  The law StreamAll, walked: it answers true, and nothing that was there is touched.
-/
import Derived.Test.YtophchhienlafaaAwake
import Derived.Test.YtophchhienlafaaRsames
import Derived.Test.YtophchhienlafaaBytes
namespace Go.Proofs.Ytophchhienlafaa
open Go.RowKit

namespace Stm
theorem all_append : ∀ (l m : List Fr), all (l ++ m) = all l ++ all m
  | [], _ => rfl
  | x :: l, m => by show Mb.bytes x.t x.u x.p ++ all (l ++ m) = Mb.bytes x.t x.u x.p ++ all l ++ all m; rw [all_append l m, List.append_assoc]
theorem all_length : ∀ (l : List Fr), (all l).length ≤ 260 * l.length
  | [] => Nat.le_refl _
  | x :: l => by
    have h1 := Mb.bytes_le x.t x.u x.p
    have h2 := all_length l
    show (Mb.bytes x.t x.u x.p ++ all l).length ≤ 260 * (l.length + 1)
    rw [List.length_append]
    omega
theorem all_one (x : Fr) : all [x] = Mb.bytes x.t x.u x.p := by show _ ++ [] = _; rw [List.append_nil]
end Stm

theorem frs_one {F : Nat → Prop} {w : World} : ∀ {l : List Fr} {vs : List Value}, FrsIn F w vs l → ∀ u ∈ vs, u.oneCell' = true
  | [], _, k => by rw [show _ = [] from k]; simp
  | _ :: _, _, ⟨h, vs', e, _, k2⟩ => by
    intro u hu
    rw [e] at hu
    rcases List.mem_append.1 hu with h1 | h1
    · exact fr_one _ _ u h1
    · exact frs_one k2 u h1
theorem lies_map_add {α : Type} {f : α → Value} {w : World} {A : Option Addr} {l : List α} (h : Lies f w A l) (k : Nat) : Lies f w (A.map fun x => x.add k) (l.drop k) := by
  intro j hj
  rw [List.length_drop] at hj
  obtain ⟨b, off, rfl, hc⟩ := h (k + j) (by omega)
  have hadd : (⟨b, off, none⟩ : Addr).add k = ⟨b, off + k, none⟩ := by unfold Addr.add; split <;> simp_all
  refine ⟨b, off + k, by rw [← hadd]; rfl, ?_⟩
  rw [List.getElem_drop, Nat.add_assoc]
  exact hc
theorem map_add_block {A : Option Addr} {k b o : Nat} {s : Option Nat} (h : (A.map fun x => x.add k) = some ⟨b, o, s⟩) : ∃ o' s', A = some ⟨b, o', s'⟩ := by
  rcases A with _ | ⟨b', o', s'⟩
  · cases h
  · have : (⟨b', o', s'⟩ : Addr).add k = ⟨b, o, s⟩ := by simpa using h
    unfold Addr.add at this
    split at this <;> (cases this; exact ⟨_, _, rfl⟩)

set_option maxRecDepth 100000 in
set_option maxHeartbeats 20000000 in
theorem all_small (A : Option Addr) (n c : Nat) (l : List Fr) (x : Int) (hn : l.length = n) (hn2 : n ≤ 20) (w : World) (h : FrsAt w A l) :
    Calls Try.prog 5 #[.slice A n c, .int .i64 x] w fun e w' => e = .returned (.bool true) ∧ Below w.heap.size w w' := by
  subst hn
  have g1 : (l.length : Int) ≤ 20 := by omega
  go_enter Try.func5, Try.ntmps5
  go_wp2_with fail
  refine (awake_any _).mono ?_
  rintro e w1 ⟨rfl, hb1⟩
  go_wp2_with fail
  go_loopw [6, 7] (fun o i wr => ∃ (j : Nat) (Ao : Option Addr) (no co : Nat), j ≤ l.length ∧ i = .int .i64 j ∧ o = .slice Ao no co ∧ (Stm.all (l.take j)).length = no ∧ wr.ownsRow w.heap.size 5 1 (.slice Ao no co) no ((Stm.all (l.take j)).map u8v) ∧ (∀ y ∈ l.take j, Mb.codeP y.p = 0) ∧ Below w.heap.size w wr) (fun _ i _ => l.length - (intOf i).toNat)
  case atStart => exact ⟨0, none, 0, 0, Nat.zero_le _, rfl, rfl, rfl, World.ownsRow_nil _ _ _ _, by simp, hb1⟩
  case round =>
    obtain ⟨j, Ao, no, co, hj, rfl, rfl, hno, hown, hall, hbe⟩ := hrel
    by_cases hlt : j < l.length
    · obtain ⟨b1, o1, g1', rfl, hx1, hc10, hc11, hc12⟩ := (h.below hbe (Nat.le_refl _)).get j hlt
      have hltw1 : b1 < wr.heap.size := World.block_lt_of_cell? _ _ hc10
      have i1 : (j : Int) < (l.length : Int) := by omega
      have hno2 : no ≤ 260 * 20 := by have := Stm.all_length (l.take j); rw [List.length_take] at this; omega
      have HT : Hid (l.take (j + 1) = l.take j ++ [l[j]]) := Lib.hid (List.take_succ_eq_append_getElem hlt)
      have HNO := Lib.hid hno
      obtain ⟨y, hy⟩ : ∃ y, l[j] = y := ⟨_, rfl⟩
      rw [hy] at hc10 hc11 hx1 HT
      have hz := hbe.size
      clear hy hno
      by_cases hbig : g1'.2.1 ≤ 400
      · have i2 : (g1'.2.1 : Int) ≤ 400 := by omega
        go_wp2_with fail
        refine (bytes4_any y.t y.u g1'.1 g1'.2.1 g1'.2.2 y.p hx1.1 (by omega) _ hx1.2.2.2.1).mono ?_
        rintro e w2 ⟨A2, n2, c2, rfl, hn2, hown2, hs2⟩
        by_cases hg : Mb.codeP y.p = 0
        · have hy2 := (own_at hown2).2.2.2
          have hle := Mb.bytes_le y.t y.u y.p
          have hown' := own_but hown (But.of_below hs2 (Nat.le_refl _) []) (by simp)
          rw [hg]
          go_wp2_with (at_builtin; go_must (refine wpList_append_lies kit8 one8 _ rfl (.tmp 46) (.tmp 47) rfl w.heap.size _ no _ rfl hown' A2 n2 c2 _ rfl hn2 hy2 (by omega) (by unfold maxLen; omega) (by have := hs2.size; omega) ?_; intro A3 c3 w3 hown3 _ hb3))
          go_roundw
          case rel =>
            refine ⟨j + 1, A3, no + n2, c3, by omega, by go_num, rfl, ?_, ?_, ?_, (hbe.trans (hs2.mono hz)).trans hb3⟩
            · rw [HT.out, Stm.all_append, Stm.all_one, List.length_append, HNO.out, hn2]
            · rw [HT.out, Stm.all_append, Stm.all_one]; exact hown3
            · rw [HT.out]
              intro z hz'
              rcases List.mem_append.1 hz' with h1 | h1
              · exact hall z h1
              · rw [List.mem_singleton.1 h1]; exact hg
          case measure => simp [intOf]; omega
        · have hcn : (((Mb.codeP y.p : Nat) : Int) != 0) = true := by rw [bne_iff_ne]; omega
          clear hg hown2 hn2
          generalize Mb.codeP y.p = q0 at hcn
          go_wp2_with fail
          go_ret
          exact ⟨rfl, hbe.trans (hs2.mono hz)⟩
      · have i2 : (400 : Int) < (g1'.2.1 : Int) := by omega
        go_wp2_with fail
        go_ret
        exact ⟨rfl, hbe⟩
    · obtain rfl : j = l.length := by omega
      rw [List.take_length] at hno hown hall
      have hz := hbe.size
      obtain ⟨hoc, hom, _, hyo⟩ := own_at hown
      have hno2 : no ≤ 260 * 20 := by have := Stm.all_length l; omega
      have HA := Lib.hid (Stm.cut_all l hall)
      have HNO := Lib.hid hno
      clear hno hall hown
      have HF : Hid (∀ S : List Nat, (∀ k ∈ S, wr.heap.size ≤ k) → ∀ b o s, Ao = some ⟨b, o, s⟩ → 0 < no → b ∉ S) := Lib.hid (by
        intro S hS b o s e h0 hm
        have := hS b hm
        obtain ⟨b', o', e', hc⟩ := hyo 0 (by rw [HNO.out]; exact h0)
        rw [e] at e'
        cases e'
        have : b < wr.heap.size := World.block_lt_of_cell? wr _ hc
        omega)
      by_cases hx0 : x < 0
      · have hp := Stm.parted (b := (Stm.all l).take 0) (c := (Stm.all l).drop 0) (by rw [List.take_append_drop]; exact HA.out)
        have hMx : max x (0 : Int) = 0 := by omega
        have hMn : min (0 : Int) (no : Int) = 0 := by omega
        have hl1 : ((Stm.all l).take 0).length = 0 := by have := HNO.out; rw [List.length_take]; omega
        have hl2 : ((Stm.all l).drop 0).length = no - 0 := by rw [List.length_drop, HNO.out]
        have hheld := Stm.cut_held ((Stm.all l).take 0)
        have hcnt1 := Stm.cut_count ((Stm.all l).take 0)
        have hcnt2 := Stm.cut_count ((Stm.cut ((Stm.all l).take 0)).2.1 ++ (Stm.all l).drop 0)
        rw [List.length_append] at hcnt2
        go_wp2_with fail
        refine (new5_any wr).mono ?_
        rintro e w2 ⟨g, S, rfl, hs2, hS2, hb2⟩
        have hbw2 := hbe.trans (hb2.mono hz)
        have hz2 := hbw2.size
        go_wp2_with fail
        refine (take5_any g S Ao 0 _ [] ((Stm.all l).take 0) hl1 (by omega) (by simp) w2 hs2 ((hyo.below hb2 (Nat.le_refl _)).take 0) (fun b o s e h0 => HF.out S hS2 b o s e (by omega))).mono ?_
        rintro e w3 ⟨Ax, nx, cx, S3, rfl, hfx, hs3, hS3, hb3⟩
        rw [List.nil_append] at hfx hs3 ⊢
        rw [hp.1] at hs3 ⊢
        have hbw3 := hbw2.trans (hb3.below (fun k hk => Nat.le_trans hz (hS2 k hk)) hz2)
        have hSS3 : ∀ k ∈ S3, wr.heap.size ≤ k := fun k hk => by rcases hS3 k hk with h | h; exact hS2 k h; have := hb2.size; omega
        have hyo3 : Lies u8v w3 Ao (Stm.all l) := hyo.below (hb2.trans (hb3.below hS2 hb2.size)) (Nat.le_refl _)
        have hfar3 := HF.out S3 hSS3
        have hz3 := hbw3.size
        have hzr3 : wr.heap.size ≤ w3.heap.size := Nat.le_trans hb2.size hb3.size
        clear hs2 hS2 hb2 hbw2 hz2 hS3 hb3
        go_wp2_with fail
        refine (take5_any g S3 _ no _ _ ((Stm.all l).drop 0) (by rw [List.drop_zero]; exact HNO.out) (by omega) (by omega) w3 hs3 (by rw [List.drop_zero]; exact hyo3) (fun b o s e h0 hm => hfar3 b o s e (by omega) hm)).mono ?_
        rintro e w4 ⟨Ay, ny, cy, S4, rfl, hfy, hs4, hS4, hb4⟩
        rw [hp.2.2.2] at hs4 ⊢
        rw [hp.2.2.1] at hs4
        have hbw4 := hbw3.trans (hb4.below (fun k hk => Nat.le_trans hz (hSS3 k hk)) hz3)
        have hfx4 := hfx.but hb4 (fun _ h => h.2)
        have hS4lt := hs4.own
        have hS4r : ∀ k ∈ S4, wr.heap.size ≤ k := fun k hk => by rcases hS4 k hk with h | h; exact hSS3 k h; omega
        have hz4 := hbw4.size
        have hE := hp.2.1
        have hfx5 : FrsBy (fun b => b < w4.heap.size) w4 Ax _ := (hfx4.move (G := fun b => b < w4.heap.size) fun _ _ hl => ⟨rfl, hl⟩).at_
        have hfy5 : FrsBy (fun b => b < w4.heap.size) w4 Ay _ := (hfy.move (G := fun b => b < w4.heap.size) fun _ _ hl => ⟨rfl, hl⟩).at_
        have hnx := hfx.1
        have hny := hfy.1
        clear hfx hs3 hbw3 hSS3 hyo3 hfar3 hz3 hfx4 hfy hS4 hb4 hp
        generalize (Stm.cut ((Stm.all l).take 0)).1 = f1 at *
        generalize (Stm.cut ((Stm.cut ((Stm.all l).take 0)).2.1 ++ (Stm.all l).drop 0)).1 = f2 at *
        go_wp2_with fail
        refine (own5_any Ax nx cx f1 hnx (by omega) w4 hfx5).mono ?_
        rintro e w5 ⟨A5, n5, c5, vs5, rfl, hn5, hown5, hfr5, hb5⟩
        have hbw5 := hbw4.trans (hb5.mono hz4)
        have hfy6 := hfy5.below hb5 (Nat.le_refl _)
        have hs5 := hs4.below hb5
        have hz5 := hbw5.size
        go_wp2_with fail
        refine (own5_any Ay ny cy f2 hny (by omega) w5 hfy6).mono ?_
        rintro e w6 ⟨A6, n6, c6, vs6, rfl, hn6, hown6, hfr6, hb6⟩
        have hbw6 := hbw5.trans (hb6.mono hz5)
        have hs6 := hs5.below hb6
        have hown56 := own_but hown5 (But.of_below hb6 (Nat.le_refl _) []) (by simp)
        have hfr56 : FrsIn (fun b => b < w4.heap.size) w6 vs5 f1 := (hfr5.below hb6 (Nat.le_refl _)).move fun _ hb _ => ⟨rfl, hb.1⟩
        have hfr6' : FrsIn (fun b => b < w4.heap.size) w6 vs6 f2 := hfr6.move fun _ hb _ => ⟨rfl, hb.1⟩
        obtain ⟨_, _, hlv6, hc6⟩ := ownN_at hown6
        have hz56 : w4.heap.size ≤ w6.heap.size := Nat.le_trans hb5.size hb6.size
        go_wp2_with (at_builtin; go_must (refine wpList_append_cells kitF _ rfl (.tmp 74) (.tmp 76) rfl w4.heap.size _ n5 vs5 rfl hown56 A6 n6 c6 vs6 rfl hlv6 hc6 (frs_one hfr6) (by omega) (by unfold maxLen; omega) hz56 ?_; intro A7 c7 w7 hown7 hgr7 hb7 hat7))
        have hbw7 := hbw6.trans (hb7.mono hz4)
        have hfr7 : FrsIn (fun b => b < w4.heap.size) w7 (vs5 ++ vs6) (f1 ++ f2) := (hfr56.append hfr6').move fun b hb _ => ⟨hb7.block b hb, hb⟩
        obtain ⟨_, _, _, hc7⟩ := ownN_at hown7
        have hs7 := hs6.over hS4lt hb7
        have hl7 : FrsAt w7 A l := h.below hbw7 (Nat.le_refl _)
        have hz7 := hbw7.size
        go_wp2_with fail
        refine (own5_any A _ c l rfl (by omega) w7 hl7).mono ?_
        rintro e w8 ⟨A8, n8, c8, vs8, rfl, hn8, hown8, hfr8, hb8⟩
        have hbw8 := hbw7.trans (hb8.mono hz7)
        obtain ⟨_, _, _, hc8⟩ := ownN_at hown8
        have hq1 : FrsAt w8 A7 (f1 ++ f2) := ⟨_, hc7.below hb8 (Nat.le_refl _), (hfr7.below hb8 (Nat.le_refl _)).move fun _ _ _ => ⟨rfl, trivial⟩⟩
        have hq2 : FrsAt w8 A8 l := ⟨_, hc8, hfr8.move fun _ _ _ => ⟨rfl, trivial⟩⟩
        have hs8 := hs7.below hb8
        have hz8 := hbw8.size
        go_wp2_with fail
        refine (rsames5_any A7 A8 (n5 + n6) n8 c7 c8 (f1 ++ f2) l (by rw [List.length_append, hn5, hn6]) hn8 (by unfold maxLen; omega) w8 hq1 hq2).mono ?_
        rintro e w9 ⟨rfl, hb9⟩
        rw [decide_eq_true hE]
        have hbw9 := hbw8.trans (hb9.mono hz8)
        have hs9 := hs8.below hb9
        clear hq1 hq2 hs8 hs7 hl7 hc7 hc8 hfr7 hfr8 hown8 hown7
        go_wp2_with fail
        refine (held5_any g S4 _ _ w9 hs9).mono ?_
        rintro e w10 ⟨rfl, rfl⟩
        go_wp2_with fail
        go_ret
        exact ⟨rfl, hbw9⟩
      · obtain ⟨k, rfl⟩ := Int.eq_ofNat_of_zero_le (show 0 ≤ x by omega)
        by_cases hxk : k ≤ no
        · by_cases hck : co = k
          · have hxi : (k : Int) ≤ (no : Int) := by omega
            have hMx : max (k : Int) (0 : Int) = (k : Int) := by omega
            have hMn : min (k : Int) (no : Int) = (k : Int) := by omega
            have hp := Stm.parted (b := (Stm.all l).take k) (c := (Stm.all l).drop k) (by rw [List.take_append_drop]; exact HA.out)
            have hl1 : ((Stm.all l).take k).length = k := by have := HNO.out; rw [List.length_take]; omega
            have hl2 : ((Stm.all l).drop k).length = no - k := by rw [List.length_drop, HNO.out]
            have hheld := Stm.cut_held ((Stm.all l).take k)
            have hcnt1 := Stm.cut_count ((Stm.all l).take k)
            have hcnt2 := Stm.cut_count ((Stm.cut ((Stm.all l).take k)).2.1 ++ (Stm.all l).drop k)
            rw [List.length_append] at hcnt2
            go_wp2_with fail
            refine (new5_any wr).mono ?_
            rintro e w2 ⟨g, S, rfl, hs2, hS2, hb2⟩
            have hbw2 := hbe.trans (hb2.mono hz)
            have hz2 := hbw2.size
            go_wp2_with fail
            refine (take5_any g S Ao k _ [] ((Stm.all l).take k) hl1 (by omega) (by simp; omega) w2 hs2 ((hyo.below hb2 (Nat.le_refl _)).take k) (fun b o s e h0 => HF.out S hS2 b o s e (by omega))).mono ?_
            rintro e w3 ⟨Ax, nx, cx, S3, rfl, hfx, hs3, hS3, hb3⟩
            rw [List.nil_append] at hfx hs3 ⊢
            rw [hp.1] at hs3 ⊢
            have hbw3 := hbw2.trans (hb3.below (fun k hk => Nat.le_trans hz (hS2 k hk)) hz2)
            have hSS3 : ∀ k ∈ S3, wr.heap.size ≤ k := fun k hk => by rcases hS3 k hk with h | h; exact hS2 k h; have := hb2.size; omega
            have hyo3 : Lies u8v w3 Ao (Stm.all l) := hyo.below (hb2.trans (hb3.below hS2 hb2.size)) (Nat.le_refl _)
            have hfar3 := HF.out S3 hSS3
            have hz3 := hbw3.size
            have hzr3 : wr.heap.size ≤ w3.heap.size := Nat.le_trans hb2.size hb3.size
            clear hs2 hS2 hb2 hbw2 hz2 hS3 hb3
            go_wp2_with fail
            refine (take5_any g S3 _ (no - k) _ _ ((Stm.all l).drop k) (by rw [hl2]) (by omega) (by omega) w3 hs3 (by rw [List.eq_nil_of_length_eq_zero (show ((Stm.all l).drop k).length = 0 by rw [hl2]; omega)]; exact Lies.nil _ _) (fun b o s e h0 => by omega)).mono ?_
            rintro e w4 ⟨Ay, ny, cy, S4, rfl, hfy, hs4, hS4, hb4⟩
            rw [hp.2.2.2] at hs4 ⊢
            rw [hp.2.2.1] at hs4
            have hbw4 := hbw3.trans (hb4.below (fun k hk => Nat.le_trans hz (hSS3 k hk)) hz3)
            have hfx4 := hfx.but hb4 (fun _ h => h.2)
            have hS4lt := hs4.own
            have hS4r : ∀ k ∈ S4, wr.heap.size ≤ k := fun k hk => by rcases hS4 k hk with h | h; exact hSS3 k h; omega
            have hz4 := hbw4.size
            have hE := hp.2.1
            have hfx5 : FrsBy (fun b => b < w4.heap.size) w4 Ax _ := (hfx4.move (G := fun b => b < w4.heap.size) fun _ _ hl => ⟨rfl, hl⟩).at_
            have hfy5 : FrsBy (fun b => b < w4.heap.size) w4 Ay _ := (hfy.move (G := fun b => b < w4.heap.size) fun _ _ hl => ⟨rfl, hl⟩).at_
            have hnx := hfx.1
            have hny := hfy.1
            clear hfx hs3 hbw3 hSS3 hyo3 hfar3 hz3 hfx4 hfy hS4 hb4 hp
            generalize (Stm.cut ((Stm.all l).take k)).1 = f1 at *
            generalize (Stm.cut ((Stm.cut ((Stm.all l).take k)).2.1 ++ (Stm.all l).drop k)).1 = f2 at *
            go_wp2_with fail
            refine (own5_any Ax nx cx f1 hnx (by omega) w4 hfx5).mono ?_
            rintro e w5 ⟨A5, n5, c5, vs5, rfl, hn5, hown5, hfr5, hb5⟩
            have hbw5 := hbw4.trans (hb5.mono hz4)
            have hfy6 := hfy5.below hb5 (Nat.le_refl _)
            have hs5 := hs4.below hb5
            have hz5 := hbw5.size
            go_wp2_with fail
            refine (own5_any Ay ny cy f2 hny (by omega) w5 hfy6).mono ?_
            rintro e w6 ⟨A6, n6, c6, vs6, rfl, hn6, hown6, hfr6, hb6⟩
            have hbw6 := hbw5.trans (hb6.mono hz5)
            have hs6 := hs5.below hb6
            have hown56 := own_but hown5 (But.of_below hb6 (Nat.le_refl _) []) (by simp)
            have hfr56 : FrsIn (fun b => b < w4.heap.size) w6 vs5 f1 := (hfr5.below hb6 (Nat.le_refl _)).move fun _ hb _ => ⟨rfl, hb.1⟩
            have hfr6' : FrsIn (fun b => b < w4.heap.size) w6 vs6 f2 := hfr6.move fun _ hb _ => ⟨rfl, hb.1⟩
            obtain ⟨_, _, hlv6, hc6⟩ := ownN_at hown6
            have hz56 : w4.heap.size ≤ w6.heap.size := Nat.le_trans hb5.size hb6.size
            go_wp2_with (at_builtin; go_must (refine wpList_append_cells kitF _ rfl (.tmp 74) (.tmp 76) rfl w4.heap.size _ n5 vs5 rfl hown56 A6 n6 c6 vs6 rfl hlv6 hc6 (frs_one hfr6) (by omega) (by unfold maxLen; omega) hz56 ?_; intro A7 c7 w7 hown7 hgr7 hb7 hat7))
            have hbw7 := hbw6.trans (hb7.mono hz4)
            have hfr7 : FrsIn (fun b => b < w4.heap.size) w7 (vs5 ++ vs6) (f1 ++ f2) := (hfr56.append hfr6').move fun b hb _ => ⟨hb7.block b hb, hb⟩
            obtain ⟨_, _, _, hc7⟩ := ownN_at hown7
            have hs7 := hs6.over hS4lt hb7
            have hl7 : FrsAt w7 A l := h.below hbw7 (Nat.le_refl _)
            have hz7 := hbw7.size
            go_wp2_with fail
            refine (own5_any A _ c l rfl (by omega) w7 hl7).mono ?_
            rintro e w8 ⟨A8, n8, c8, vs8, rfl, hn8, hown8, hfr8, hb8⟩
            have hbw8 := hbw7.trans (hb8.mono hz7)
            obtain ⟨_, _, _, hc8⟩ := ownN_at hown8
            have hq1 : FrsAt w8 A7 (f1 ++ f2) := ⟨_, hc7.below hb8 (Nat.le_refl _), (hfr7.below hb8 (Nat.le_refl _)).move fun _ _ _ => ⟨rfl, trivial⟩⟩
            have hq2 : FrsAt w8 A8 l := ⟨_, hc8, hfr8.move fun _ _ _ => ⟨rfl, trivial⟩⟩
            have hs8 := hs7.below hb8
            have hz8 := hbw8.size
            go_wp2_with fail
            refine (rsames5_any A7 A8 (n5 + n6) n8 c7 c8 (f1 ++ f2) l (by rw [List.length_append, hn5, hn6]) hn8 (by unfold maxLen; omega) w8 hq1 hq2).mono ?_
            rintro e w9 ⟨rfl, hb9⟩
            rw [decide_eq_true hE]
            have hbw9 := hbw8.trans (hb9.mono hz8)
            have hs9 := hs8.below hb9
            clear hq1 hq2 hs8 hs7 hl7 hc7 hc8 hfr7 hfr8 hown8 hown7
            go_wp2_with fail
            refine (held5_any g S4 _ _ w9 hs9).mono ?_
            rintro e w10 ⟨rfl, rfl⟩
            go_wp2_with fail
            go_ret
            exact ⟨rfl, hbw9⟩
          · have hxi : (k : Int) ≤ (no : Int) := by omega
            have hMx : max (k : Int) (0 : Int) = (k : Int) := by omega
            have hMn : min (k : Int) (no : Int) = (k : Int) := by omega
            have hp := Stm.parted (b := (Stm.all l).take k) (c := (Stm.all l).drop k) (by rw [List.take_append_drop]; exact HA.out)
            have hl1 : ((Stm.all l).take k).length = k := by have := HNO.out; rw [List.length_take]; omega
            have hl2 : ((Stm.all l).drop k).length = no - k := by rw [List.length_drop, HNO.out]
            have hheld := Stm.cut_held ((Stm.all l).take k)
            have hcnt1 := Stm.cut_count ((Stm.all l).take k)
            have hcnt2 := Stm.cut_count ((Stm.cut ((Stm.all l).take k)).2.1 ++ (Stm.all l).drop k)
            rw [List.length_append] at hcnt2
            go_wp2_with fail
            refine (new5_any wr).mono ?_
            rintro e w2 ⟨g, S, rfl, hs2, hS2, hb2⟩
            have hbw2 := hbe.trans (hb2.mono hz)
            have hz2 := hbw2.size
            go_wp2_with fail
            refine (take5_any g S Ao k _ [] ((Stm.all l).take k) hl1 (by omega) (by simp; omega) w2 hs2 ((hyo.below hb2 (Nat.le_refl _)).take k) (fun b o s e h0 => HF.out S hS2 b o s e (by omega))).mono ?_
            rintro e w3 ⟨Ax, nx, cx, S3, rfl, hfx, hs3, hS3, hb3⟩
            rw [List.nil_append] at hfx hs3 ⊢
            rw [hp.1] at hs3 ⊢
            have hbw3 := hbw2.trans (hb3.below (fun k hk => Nat.le_trans hz (hS2 k hk)) hz2)
            have hSS3 : ∀ k ∈ S3, wr.heap.size ≤ k := fun k hk => by rcases hS3 k hk with h | h; exact hS2 k h; have := hb2.size; omega
            have hyo3 : Lies u8v w3 Ao (Stm.all l) := hyo.below (hb2.trans (hb3.below hS2 hb2.size)) (Nat.le_refl _)
            have hfar3 := HF.out S3 hSS3
            have hz3 := hbw3.size
            have hzr3 : wr.heap.size ≤ w3.heap.size := Nat.le_trans hb2.size hb3.size
            clear hs2 hS2 hb2 hbw2 hz2 hS3 hb3
            go_wp2_with fail
            refine (take5_any g S3 _ (no - k) _ _ ((Stm.all l).drop k) (by rw [hl2]) (by omega) (by omega) w3 hs3 (lies_map_add hyo3 k) (fun b o s e h0 hm => by obtain ⟨o', s', e'⟩ := map_add_block e; exact hfar3 b o' s' e' (by omega) hm)).mono ?_
            rintro e w4 ⟨Ay, ny, cy, S4, rfl, hfy, hs4, hS4, hb4⟩
            rw [hp.2.2.2] at hs4 ⊢
            rw [hp.2.2.1] at hs4
            have hbw4 := hbw3.trans (hb4.below (fun k hk => Nat.le_trans hz (hSS3 k hk)) hz3)
            have hfx4 := hfx.but hb4 (fun _ h => h.2)
            have hS4lt := hs4.own
            have hS4r : ∀ k ∈ S4, wr.heap.size ≤ k := fun k hk => by rcases hS4 k hk with h | h; exact hSS3 k h; omega
            have hz4 := hbw4.size
            have hE := hp.2.1
            have hfx5 : FrsBy (fun b => b < w4.heap.size) w4 Ax _ := (hfx4.move (G := fun b => b < w4.heap.size) fun _ _ hl => ⟨rfl, hl⟩).at_
            have hfy5 : FrsBy (fun b => b < w4.heap.size) w4 Ay _ := (hfy.move (G := fun b => b < w4.heap.size) fun _ _ hl => ⟨rfl, hl⟩).at_
            have hnx := hfx.1
            have hny := hfy.1
            clear hfx hs3 hbw3 hSS3 hyo3 hfar3 hz3 hfx4 hfy hS4 hb4 hp
            generalize (Stm.cut ((Stm.all l).take k)).1 = f1 at *
            generalize (Stm.cut ((Stm.cut ((Stm.all l).take k)).2.1 ++ (Stm.all l).drop k)).1 = f2 at *
            go_wp2_with fail
            refine (own5_any Ax nx cx f1 hnx (by omega) w4 hfx5).mono ?_
            rintro e w5 ⟨A5, n5, c5, vs5, rfl, hn5, hown5, hfr5, hb5⟩
            have hbw5 := hbw4.trans (hb5.mono hz4)
            have hfy6 := hfy5.below hb5 (Nat.le_refl _)
            have hs5 := hs4.below hb5
            have hz5 := hbw5.size
            go_wp2_with fail
            refine (own5_any Ay ny cy f2 hny (by omega) w5 hfy6).mono ?_
            rintro e w6 ⟨A6, n6, c6, vs6, rfl, hn6, hown6, hfr6, hb6⟩
            have hbw6 := hbw5.trans (hb6.mono hz5)
            have hs6 := hs5.below hb6
            have hown56 := own_but hown5 (But.of_below hb6 (Nat.le_refl _) []) (by simp)
            have hfr56 : FrsIn (fun b => b < w4.heap.size) w6 vs5 f1 := (hfr5.below hb6 (Nat.le_refl _)).move fun _ hb _ => ⟨rfl, hb.1⟩
            have hfr6' : FrsIn (fun b => b < w4.heap.size) w6 vs6 f2 := hfr6.move fun _ hb _ => ⟨rfl, hb.1⟩
            obtain ⟨_, _, hlv6, hc6⟩ := ownN_at hown6
            have hz56 : w4.heap.size ≤ w6.heap.size := Nat.le_trans hb5.size hb6.size
            go_wp2_with (at_builtin; go_must (refine wpList_append_cells kitF _ rfl (.tmp 74) (.tmp 76) rfl w4.heap.size _ n5 vs5 rfl hown56 A6 n6 c6 vs6 rfl hlv6 hc6 (frs_one hfr6) (by omega) (by unfold maxLen; omega) hz56 ?_; intro A7 c7 w7 hown7 hgr7 hb7 hat7))
            have hbw7 := hbw6.trans (hb7.mono hz4)
            have hfr7 : FrsIn (fun b => b < w4.heap.size) w7 (vs5 ++ vs6) (f1 ++ f2) := (hfr56.append hfr6').move fun b hb _ => ⟨hb7.block b hb, hb⟩
            obtain ⟨_, _, _, hc7⟩ := ownN_at hown7
            have hs7 := hs6.over hS4lt hb7
            have hl7 : FrsAt w7 A l := h.below hbw7 (Nat.le_refl _)
            have hz7 := hbw7.size
            go_wp2_with fail
            refine (own5_any A _ c l rfl (by omega) w7 hl7).mono ?_
            rintro e w8 ⟨A8, n8, c8, vs8, rfl, hn8, hown8, hfr8, hb8⟩
            have hbw8 := hbw7.trans (hb8.mono hz7)
            obtain ⟨_, _, _, hc8⟩ := ownN_at hown8
            have hq1 : FrsAt w8 A7 (f1 ++ f2) := ⟨_, hc7.below hb8 (Nat.le_refl _), (hfr7.below hb8 (Nat.le_refl _)).move fun _ _ _ => ⟨rfl, trivial⟩⟩
            have hq2 : FrsAt w8 A8 l := ⟨_, hc8, hfr8.move fun _ _ _ => ⟨rfl, trivial⟩⟩
            have hs8 := hs7.below hb8
            have hz8 := hbw8.size
            go_wp2_with fail
            refine (rsames5_any A7 A8 (n5 + n6) n8 c7 c8 (f1 ++ f2) l (by rw [List.length_append, hn5, hn6]) hn8 (by unfold maxLen; omega) w8 hq1 hq2).mono ?_
            rintro e w9 ⟨rfl, hb9⟩
            rw [decide_eq_true hE]
            have hbw9 := hbw8.trans (hb9.mono hz8)
            have hs9 := hs8.below hb9
            clear hq1 hq2 hs8 hs7 hl7 hc7 hc8 hfr7 hfr8 hown8 hown7
            go_wp2_with fail
            refine (held5_any g S4 _ _ w9 hs9).mono ?_
            rintro e w10 ⟨rfl, rfl⟩
            go_wp2_with fail
            go_ret
            exact ⟨rfl, hbw9⟩
        · by_cases hck : co = no
          · have hxi : (no : Int) < (k : Int) := by omega
            have hMx : max (k : Int) (0 : Int) = (k : Int) := by omega
            have hMn : min (k : Int) (no : Int) = (no : Int) := by omega
            have hp := Stm.parted (b := (Stm.all l).take no) (c := (Stm.all l).drop no) (by rw [List.take_append_drop]; exact HA.out)
            have hl1 : ((Stm.all l).take no).length = no := by have := HNO.out; rw [List.length_take]; omega
            have hl2 : ((Stm.all l).drop no).length = no - no := by rw [List.length_drop, HNO.out]
            have hheld := Stm.cut_held ((Stm.all l).take no)
            have hcnt1 := Stm.cut_count ((Stm.all l).take no)
            have hcnt2 := Stm.cut_count ((Stm.cut ((Stm.all l).take no)).2.1 ++ (Stm.all l).drop no)
            rw [List.length_append] at hcnt2
            go_wp2_with fail
            refine (new5_any wr).mono ?_
            rintro e w2 ⟨g, S, rfl, hs2, hS2, hb2⟩
            have hbw2 := hbe.trans (hb2.mono hz)
            have hz2 := hbw2.size
            go_wp2_with fail
            refine (take5_any g S Ao no _ [] ((Stm.all l).take no) hl1 (by omega) (by simp; omega) w2 hs2 ((hyo.below hb2 (Nat.le_refl _)).take no) (fun b o s e h0 => HF.out S hS2 b o s e (by omega))).mono ?_
            rintro e w3 ⟨Ax, nx, cx, S3, rfl, hfx, hs3, hS3, hb3⟩
            rw [List.nil_append] at hfx hs3 ⊢
            rw [hp.1] at hs3 ⊢
            have hbw3 := hbw2.trans (hb3.below (fun k hk => Nat.le_trans hz (hS2 k hk)) hz2)
            have hSS3 : ∀ k ∈ S3, wr.heap.size ≤ k := fun k hk => by rcases hS3 k hk with h | h; exact hS2 k h; have := hb2.size; omega
            have hyo3 : Lies u8v w3 Ao (Stm.all l) := hyo.below (hb2.trans (hb3.below hS2 hb2.size)) (Nat.le_refl _)
            have hfar3 := HF.out S3 hSS3
            have hz3 := hbw3.size
            have hzr3 : wr.heap.size ≤ w3.heap.size := Nat.le_trans hb2.size hb3.size
            clear hs2 hS2 hb2 hbw2 hz2 hS3 hb3
            go_wp2_with fail
            refine (take5_any g S3 _ 0 _ _ ((Stm.all l).drop no) (by rw [hl2]; omega) (by omega) (by omega) w3 hs3 (by rw [List.eq_nil_of_length_eq_zero (show ((Stm.all l).drop no).length = 0 by rw [hl2]; omega)]; exact Lies.nil _ _) (fun b o s e h0 => by omega)).mono ?_
            rintro e w4 ⟨Ay, ny, cy, S4, rfl, hfy, hs4, hS4, hb4⟩
            rw [hp.2.2.2] at hs4 ⊢
            rw [hp.2.2.1] at hs4
            have hbw4 := hbw3.trans (hb4.below (fun k hk => Nat.le_trans hz (hSS3 k hk)) hz3)
            have hfx4 := hfx.but hb4 (fun _ h => h.2)
            have hS4lt := hs4.own
            have hS4r : ∀ k ∈ S4, wr.heap.size ≤ k := fun k hk => by rcases hS4 k hk with h | h; exact hSS3 k h; omega
            have hz4 := hbw4.size
            have hE := hp.2.1
            have hfx5 : FrsBy (fun b => b < w4.heap.size) w4 Ax _ := (hfx4.move (G := fun b => b < w4.heap.size) fun _ _ hl => ⟨rfl, hl⟩).at_
            have hfy5 : FrsBy (fun b => b < w4.heap.size) w4 Ay _ := (hfy.move (G := fun b => b < w4.heap.size) fun _ _ hl => ⟨rfl, hl⟩).at_
            have hnx := hfx.1
            have hny := hfy.1
            clear hfx hs3 hbw3 hSS3 hyo3 hfar3 hz3 hfx4 hfy hS4 hb4 hp
            generalize (Stm.cut ((Stm.all l).take no)).1 = f1 at *
            generalize (Stm.cut ((Stm.cut ((Stm.all l).take no)).2.1 ++ (Stm.all l).drop no)).1 = f2 at *
            go_wp2_with fail
            refine (own5_any Ax nx cx f1 hnx (by omega) w4 hfx5).mono ?_
            rintro e w5 ⟨A5, n5, c5, vs5, rfl, hn5, hown5, hfr5, hb5⟩
            have hbw5 := hbw4.trans (hb5.mono hz4)
            have hfy6 := hfy5.below hb5 (Nat.le_refl _)
            have hs5 := hs4.below hb5
            have hz5 := hbw5.size
            go_wp2_with fail
            refine (own5_any Ay ny cy f2 hny (by omega) w5 hfy6).mono ?_
            rintro e w6 ⟨A6, n6, c6, vs6, rfl, hn6, hown6, hfr6, hb6⟩
            have hbw6 := hbw5.trans (hb6.mono hz5)
            have hs6 := hs5.below hb6
            have hown56 := own_but hown5 (But.of_below hb6 (Nat.le_refl _) []) (by simp)
            have hfr56 : FrsIn (fun b => b < w4.heap.size) w6 vs5 f1 := (hfr5.below hb6 (Nat.le_refl _)).move fun _ hb _ => ⟨rfl, hb.1⟩
            have hfr6' : FrsIn (fun b => b < w4.heap.size) w6 vs6 f2 := hfr6.move fun _ hb _ => ⟨rfl, hb.1⟩
            obtain ⟨_, _, hlv6, hc6⟩ := ownN_at hown6
            have hz56 : w4.heap.size ≤ w6.heap.size := Nat.le_trans hb5.size hb6.size
            go_wp2_with (at_builtin; go_must (refine wpList_append_cells kitF _ rfl (.tmp 74) (.tmp 76) rfl w4.heap.size _ n5 vs5 rfl hown56 A6 n6 c6 vs6 rfl hlv6 hc6 (frs_one hfr6) (by omega) (by unfold maxLen; omega) hz56 ?_; intro A7 c7 w7 hown7 hgr7 hb7 hat7))
            have hbw7 := hbw6.trans (hb7.mono hz4)
            have hfr7 : FrsIn (fun b => b < w4.heap.size) w7 (vs5 ++ vs6) (f1 ++ f2) := (hfr56.append hfr6').move fun b hb _ => ⟨hb7.block b hb, hb⟩
            obtain ⟨_, _, _, hc7⟩ := ownN_at hown7
            have hs7 := hs6.over hS4lt hb7
            have hl7 : FrsAt w7 A l := h.below hbw7 (Nat.le_refl _)
            have hz7 := hbw7.size
            go_wp2_with fail
            refine (own5_any A _ c l rfl (by omega) w7 hl7).mono ?_
            rintro e w8 ⟨A8, n8, c8, vs8, rfl, hn8, hown8, hfr8, hb8⟩
            have hbw8 := hbw7.trans (hb8.mono hz7)
            obtain ⟨_, _, _, hc8⟩ := ownN_at hown8
            have hq1 : FrsAt w8 A7 (f1 ++ f2) := ⟨_, hc7.below hb8 (Nat.le_refl _), (hfr7.below hb8 (Nat.le_refl _)).move fun _ _ _ => ⟨rfl, trivial⟩⟩
            have hq2 : FrsAt w8 A8 l := ⟨_, hc8, hfr8.move fun _ _ _ => ⟨rfl, trivial⟩⟩
            have hs8 := hs7.below hb8
            have hz8 := hbw8.size
            go_wp2_with fail
            refine (rsames5_any A7 A8 (n5 + n6) n8 c7 c8 (f1 ++ f2) l (by rw [List.length_append, hn5, hn6]) hn8 (by unfold maxLen; omega) w8 hq1 hq2).mono ?_
            rintro e w9 ⟨rfl, hb9⟩
            rw [decide_eq_true hE]
            have hbw9 := hbw8.trans (hb9.mono hz8)
            have hs9 := hs8.below hb9
            clear hq1 hq2 hs8 hs7 hl7 hc7 hc8 hfr7 hfr8 hown8 hown7
            go_wp2_with fail
            refine (held5_any g S4 _ _ w9 hs9).mono ?_
            rintro e w10 ⟨rfl, rfl⟩
            go_wp2_with fail
            go_ret
            exact ⟨rfl, hbw9⟩
          · have hxi : (no : Int) < (k : Int) := by omega
            have hMx : max (k : Int) (0 : Int) = (k : Int) := by omega
            have hMn : min (k : Int) (no : Int) = (no : Int) := by omega
            have hp := Stm.parted (b := (Stm.all l).take no) (c := (Stm.all l).drop no) (by rw [List.take_append_drop]; exact HA.out)
            have hl1 : ((Stm.all l).take no).length = no := by have := HNO.out; rw [List.length_take]; omega
            have hl2 : ((Stm.all l).drop no).length = no - no := by rw [List.length_drop, HNO.out]
            have hheld := Stm.cut_held ((Stm.all l).take no)
            have hcnt1 := Stm.cut_count ((Stm.all l).take no)
            have hcnt2 := Stm.cut_count ((Stm.cut ((Stm.all l).take no)).2.1 ++ (Stm.all l).drop no)
            rw [List.length_append] at hcnt2
            go_wp2_with fail
            refine (new5_any wr).mono ?_
            rintro e w2 ⟨g, S, rfl, hs2, hS2, hb2⟩
            have hbw2 := hbe.trans (hb2.mono hz)
            have hz2 := hbw2.size
            go_wp2_with fail
            refine (take5_any g S Ao no _ [] ((Stm.all l).take no) hl1 (by omega) (by simp; omega) w2 hs2 ((hyo.below hb2 (Nat.le_refl _)).take no) (fun b o s e h0 => HF.out S hS2 b o s e (by omega))).mono ?_
            rintro e w3 ⟨Ax, nx, cx, S3, rfl, hfx, hs3, hS3, hb3⟩
            rw [List.nil_append] at hfx hs3 ⊢
            rw [hp.1] at hs3 ⊢
            have hbw3 := hbw2.trans (hb3.below (fun k hk => Nat.le_trans hz (hS2 k hk)) hz2)
            have hSS3 : ∀ k ∈ S3, wr.heap.size ≤ k := fun k hk => by rcases hS3 k hk with h | h; exact hS2 k h; have := hb2.size; omega
            have hyo3 : Lies u8v w3 Ao (Stm.all l) := hyo.below (hb2.trans (hb3.below hS2 hb2.size)) (Nat.le_refl _)
            have hfar3 := HF.out S3 hSS3
            have hz3 := hbw3.size
            have hzr3 : wr.heap.size ≤ w3.heap.size := Nat.le_trans hb2.size hb3.size
            clear hs2 hS2 hb2 hbw2 hz2 hS3 hb3
            go_wp2_with fail
            refine (take5_any g S3 _ 0 _ _ ((Stm.all l).drop no) (by rw [hl2]; omega) (by omega) (by omega) w3 hs3 (lies_map_add hyo3 no) (fun b o s e h0 => by omega)).mono ?_
            rintro e w4 ⟨Ay, ny, cy, S4, rfl, hfy, hs4, hS4, hb4⟩
            rw [hp.2.2.2] at hs4 ⊢
            rw [hp.2.2.1] at hs4
            have hbw4 := hbw3.trans (hb4.below (fun k hk => Nat.le_trans hz (hSS3 k hk)) hz3)
            have hfx4 := hfx.but hb4 (fun _ h => h.2)
            have hS4lt := hs4.own
            have hS4r : ∀ k ∈ S4, wr.heap.size ≤ k := fun k hk => by rcases hS4 k hk with h | h; exact hSS3 k h; omega
            have hz4 := hbw4.size
            have hE := hp.2.1
            have hfx5 : FrsBy (fun b => b < w4.heap.size) w4 Ax _ := (hfx4.move (G := fun b => b < w4.heap.size) fun _ _ hl => ⟨rfl, hl⟩).at_
            have hfy5 : FrsBy (fun b => b < w4.heap.size) w4 Ay _ := (hfy.move (G := fun b => b < w4.heap.size) fun _ _ hl => ⟨rfl, hl⟩).at_
            have hnx := hfx.1
            have hny := hfy.1
            clear hfx hs3 hbw3 hSS3 hyo3 hfar3 hz3 hfx4 hfy hS4 hb4 hp
            generalize (Stm.cut ((Stm.all l).take no)).1 = f1 at *
            generalize (Stm.cut ((Stm.cut ((Stm.all l).take no)).2.1 ++ (Stm.all l).drop no)).1 = f2 at *
            go_wp2_with fail
            refine (own5_any Ax nx cx f1 hnx (by omega) w4 hfx5).mono ?_
            rintro e w5 ⟨A5, n5, c5, vs5, rfl, hn5, hown5, hfr5, hb5⟩
            have hbw5 := hbw4.trans (hb5.mono hz4)
            have hfy6 := hfy5.below hb5 (Nat.le_refl _)
            have hs5 := hs4.below hb5
            have hz5 := hbw5.size
            go_wp2_with fail
            refine (own5_any Ay ny cy f2 hny (by omega) w5 hfy6).mono ?_
            rintro e w6 ⟨A6, n6, c6, vs6, rfl, hn6, hown6, hfr6, hb6⟩
            have hbw6 := hbw5.trans (hb6.mono hz5)
            have hs6 := hs5.below hb6
            have hown56 := own_but hown5 (But.of_below hb6 (Nat.le_refl _) []) (by simp)
            have hfr56 : FrsIn (fun b => b < w4.heap.size) w6 vs5 f1 := (hfr5.below hb6 (Nat.le_refl _)).move fun _ hb _ => ⟨rfl, hb.1⟩
            have hfr6' : FrsIn (fun b => b < w4.heap.size) w6 vs6 f2 := hfr6.move fun _ hb _ => ⟨rfl, hb.1⟩
            obtain ⟨_, _, hlv6, hc6⟩ := ownN_at hown6
            have hz56 : w4.heap.size ≤ w6.heap.size := Nat.le_trans hb5.size hb6.size
            go_wp2_with (at_builtin; go_must (refine wpList_append_cells kitF _ rfl (.tmp 74) (.tmp 76) rfl w4.heap.size _ n5 vs5 rfl hown56 A6 n6 c6 vs6 rfl hlv6 hc6 (frs_one hfr6) (by omega) (by unfold maxLen; omega) hz56 ?_; intro A7 c7 w7 hown7 hgr7 hb7 hat7))
            have hbw7 := hbw6.trans (hb7.mono hz4)
            have hfr7 : FrsIn (fun b => b < w4.heap.size) w7 (vs5 ++ vs6) (f1 ++ f2) := (hfr56.append hfr6').move fun b hb _ => ⟨hb7.block b hb, hb⟩
            obtain ⟨_, _, _, hc7⟩ := ownN_at hown7
            have hs7 := hs6.over hS4lt hb7
            have hl7 : FrsAt w7 A l := h.below hbw7 (Nat.le_refl _)
            have hz7 := hbw7.size
            go_wp2_with fail
            refine (own5_any A _ c l rfl (by omega) w7 hl7).mono ?_
            rintro e w8 ⟨A8, n8, c8, vs8, rfl, hn8, hown8, hfr8, hb8⟩
            have hbw8 := hbw7.trans (hb8.mono hz7)
            obtain ⟨_, _, _, hc8⟩ := ownN_at hown8
            have hq1 : FrsAt w8 A7 (f1 ++ f2) := ⟨_, hc7.below hb8 (Nat.le_refl _), (hfr7.below hb8 (Nat.le_refl _)).move fun _ _ _ => ⟨rfl, trivial⟩⟩
            have hq2 : FrsAt w8 A8 l := ⟨_, hc8, hfr8.move fun _ _ _ => ⟨rfl, trivial⟩⟩
            have hs8 := hs7.below hb8
            have hz8 := hbw8.size
            go_wp2_with fail
            refine (rsames5_any A7 A8 (n5 + n6) n8 c7 c8 (f1 ++ f2) l (by rw [List.length_append, hn5, hn6]) hn8 (by unfold maxLen; omega) w8 hq1 hq2).mono ?_
            rintro e w9 ⟨rfl, hb9⟩
            rw [decide_eq_true hE]
            have hbw9 := hbw8.trans (hb9.mono hz8)
            have hs9 := hs8.below hb9
            clear hq1 hq2 hs8 hs7 hl7 hc7 hc8 hfr7 hfr8 hown8 hown7
            go_wp2_with fail
            refine (held5_any g S4 _ _ w9 hs9).mono ?_
            rintro e w10 ⟨rfl, rfl⟩
            go_wp2_with fail
            go_ret
            exact ⟨rfl, hbw9⟩

set_option maxRecDepth 100000 in
set_option maxHeartbeats 400000 in
theorem all_any (A : Option Addr) (n c : Nat) (l : List Fr) (x : Int) (hn : l.length = n) (w : World) (h : FrsAt w A l) :
    Calls Try.prog 5 #[.slice A n c, .int .i64 x] w fun e w' => e = .returned (.bool true) ∧ Below w.heap.size w w' := by
  by_cases hs : n ≤ 20
  · exact all_small A n c l x hn hs w h
  · have g1 : (20 : Int) < (n : Int) := by omega
    clear hs hn h
    go_enter Try.func5, Try.ntmps5
    go_wp2_with fail
    refine (awake_any _).mono ?_
    rintro e w1 ⟨rfl, hb1⟩
    go_wp2_with fail
    go_ret
    exact ⟨rfl, hb1⟩
end Go.Proofs.Ytophchhienlafaa
