
/- A part of the proof of the law MasterDoes. -/
import Derived.Test.YtlgmjnjhdamknaaGreatMem
import Derived.Test.YtlgmjnjhdamknaaGreatLi
namespace Go.Proofs.YtlgmjnjhdamknaaGreat
open Go.RowKit Go.Shelf


set_option maxRecDepth 100000 in
set_option maxHeartbeats 400000 in
theorem liBDrop (b0 : Nat) (W : World) (c0 : W.cell? ⟨b0, 0, none⟩ = some (.func (.func 70) #[] #[])) (q : Nat) {S : Nat → Prop} (a : Ask) (h k : Option Addr × Nat × Nat) (x : AskAt W q S a h k) :
    Calls Tryz.prog 127 #[.pointer (some ⟨q, 0, none⟩), .pointer (some ⟨b0, 0, none⟩)] W fun e w' => (∃ v, e = .returned v) ∧ ∃ h' k', AskAt w' q S { a with bits := [] } h' k' ∧ But [q] W w' := by
  have hO := bitsOf_ok.ca
  have hc := x.cell (i := 5) (v := .slice k.1 k.2.1 k.2.2) rfl
  have hf := x.free 5
  have HS := qh (x.setB [] none 0 0 rfl (zq _) (Nat.zero_le _) (Lies.nil _ _) (fun _ _ _ e => by cases e))
  have HB := qh (But.one W q 5 (.slice none 0 0))
  clear x
  go_enter Tryz.func127, Tryz.ntmps127
  go_wp2_with (go_at_call 70; refine (hO _ _).mono ?_; rintro e w' ⟨rfl, rfl⟩)
  refine bodyPost_end (results_none rfl _ _ _) rfl ?_
  exact ⟨⟨_, rfl⟩, _, _, HS.out, HB.out⟩

set_option maxRecDepth 100000 in
set_option maxHeartbeats 400000 in
theorem liBReadNo (b0 b1 m : Nat) (w0 W : World) (hw : Below w0.heap.size w0 W) (A : Option Addr) (n c : Nat) (b : List UInt8) (hn : b.length = n) (hnc : n ≤ c) (hcm : c ≤ maxLen) (hm : n ≤ 10000) (hb : Lies u8v w0 A b) (q : Nat) {S : Nat → Prop} (a : Ask) (h k : Option Addr × Nat × Nat) (x : AskAt W q S a h k)
    (hno : n < 2 ∨ n = 2 ∨ 3 ≤ n ∧ n - 3 < (cutN (b.drop 2) 1).toNat) :
    Calls Tryz.prog 126 #[.slice A n c, .pointer (some ⟨q, 0, none⟩), .pointer (some ⟨b1, 0, none⟩), .pointer (some ⟨b0, 0, none⟩)] W (ReadPost w0 W q S (.bits m) b a) := by
  have hC := cut6_any A n c 2 (.inr rfl) b hn hnc hcm (by omega) W (hb.below hw (zq _))
  have HR : Hid (PK.read b a (.bits m) = none) := qh (by
    unfold PK.read
    dsimp only
    rcases hno with g | g | ⟨g, g2⟩
    · rw [if_pos (by omega)]
    · rw [if_neg (by omega), if_pos (by rw [List.length_drop]; omega)]
    · rw [if_neg (by omega), if_neg (by rw [List.length_drop]; omega), if_pos (by rw [List.length_drop, List.length_drop]; omega)])
  have HX := qh (fun (w' : World) (hb : Below W.heap.size W w') => (⟨x.below hb, But.of_below hb (zq _) [q]⟩ : AskAt w' q S a h k ∧ But [q] W w'))
  rcases hno with hlt | hno
  · have HC : Hid (Calls Tryz.prog 118 #[.slice A n c, .int .i64 2] W fun e w' => e = .returned (.tuple #[.int .i64 0, .slice none 0 0, .bool false]) ∧ Below W.heap.size W w') := qh (hC.mono fun e w' hh => by
      unfold CutPost at hh
      rw [if_pos hlt] at hh
      exact ⟨hh.2, hh.1⟩)
    have HC2 : Hid (∀ w1, Below W.heap.size W w1 → Calls Tryz.prog 118 #[.slice none 0 0, .int .i64 1] w1 fun e w' => e = .returned (.tuple #[.int .i64 0, .slice none 0 0, .bool false]) ∧ Below W.heap.size W w') := qh (fun w1 h1 => (cut6_none none 0 0 1 [] (by omega) (by omega) w1).mono fun e w' hh => by
      unfold CutPost at hh
      rw [if_pos (by omega)] at hh
      exact ⟨hh.2, h1.trans (hh.1.mono h1.size)⟩)
    clear hC hn x
    go_enter Tryz.func126, Tryz.ntmps126
    go_wp2_with fail
    refine HC.out.mono ?_
    rintro e w1 ⟨rfl, hb1⟩
    go_wp2_with fail
    refine (HC2.out _ hb1).mono ?_
    rintro e w2 ⟨rfl, hb2⟩
    go_wp2_with fail
    go_ret2
    exact ReadPost.no _ _ _ HR.out (HX.out _ hb2).1 (HX.out _ hb2).2
  · have h2 : ¬ n < 2 := by omega
    have HC : Hid (Calls Tryz.prog 118 #[.slice A n c, .int .i64 2] W fun e w' => (∃ A' m c', e = .returned (.tuple #[.int .i64 ((cutN b 2).toNat : Int), .slice A' m c', .bool true]) ∧ (b.drop 2).length = m ∧ m ≤ c' ∧ c' ≤ maxLen ∧ Lies u8v w0 A' (b.drop 2)) ∧ Below W.heap.size W w') := qh (hC.mono fun e w' hh => by
      unfold CutPost at hh
      rw [if_neg h2] at hh
      obtain ⟨h1, A', m, c', h2, h3, h4, h5, h6⟩ := hh
      exact ⟨⟨A', m, c', h2, h3, h4, h5, h6 _ hb⟩, h1⟩)
    have HW := qh hw
    generalize cutN b 2 = V at *
    rcases hno with g | ⟨g, g2⟩
    · have HC2 : Hid (∀ A' m c' w1, (b.drop 2).length = m → Below W.heap.size W w1 → Calls Tryz.prog 118 #[.slice A' m c', .int .i64 1] w1 fun e w' => e = .returned (.tuple #[.int .i64 0, .slice none 0 0, .bool false]) ∧ Below W.heap.size W w') := qh (fun A' m c' w1 hl h1 => (cut6_none A' m c' 1 [] (by rw [List.length_drop] at hl; omega) (by omega) w1).mono fun e w' hh => by
        unfold CutPost at hh
        rw [if_pos (by rw [List.length_drop] at hl; omega)] at hh
        exact ⟨hh.2, h1.trans (hh.1.mono h1.size)⟩)
      clear hC hn x hb hw g
      go_enter Tryz.func126, Tryz.ntmps126
      go_wp2_with fail
      refine HC.out.mono ?_
      rintro e w1 ⟨⟨A1, n1, c1, rfl, k1, k2, k3, k4⟩, hb1⟩
      go_wp2_with fail
      refine (HC2.out _ _ _ _ k1 hb1).mono ?_
      rintro e w2 ⟨rfl, hb2⟩
      go_wp2_with fail
      go_ret2
      exact ReadPost.no _ _ _ HR.out (HX.out _ hb2).1 (HX.out _ hb2).2
    · have HC2 : Hid (∀ A' m c' w1, (b.drop 2).length = m → m ≤ c' → c' ≤ maxLen → Lies u8v w0 A' (b.drop 2) → Below W.heap.size W w1 → Calls Tryz.prog 118 #[.slice A' m c', .int .i64 1] w1 fun e w' => (∃ A' m c', e = .returned (.tuple #[.int .i64 ((cutN (b.drop 2) 1).toNat : Int), .slice A' m c', .bool true]) ∧ (m : Int) < ((cutN (b.drop 2) 1).toNat : Int)) ∧ Below W.heap.size W w') := qh (fun A' m c' w1 hl h3 h4 h5 h1 => (cut6_any A' m c' 1 (.inl rfl) (b.drop 2) hl h3 h4 (by rw [List.length_drop] at hl; omega) w1 (h5.below (hw.trans (h1.mono hw.size)) (zq _))).mono fun e w' hh => by
        unfold CutPost at hh
        rw [if_neg (by rw [List.length_drop] at hl; omega)] at hh
        obtain ⟨k1, A2, m2, c2, k2, k3, k4, k5, k6⟩ := hh
        exact ⟨⟨A2, m2, c2, k2, by rw [List.length_drop, List.length_drop] at k3; omega⟩, h1.trans (k1.mono h1.size)⟩)
      generalize cutN (b.drop 2) 1 = V2 at *
      clear hC hn x hb hw g2
      go_enter Tryz.func126, Tryz.ntmps126
      go_wp2_with fail
      refine HC.out.mono ?_
      rintro e w1 ⟨⟨A1, n1, c1, rfl, k1, k2, k3, k4⟩, hb1⟩
      go_wp2_with fail
      refine (HC2.out _ _ _ _ k1 k2 k3 k4 hb1).mono ?_
      rintro e w2 ⟨⟨A2, n2, c2, rfl, k5⟩, hb2⟩
      have k6 : ((V2.toNat : Int) > (n2 : Int)) := k5
      go_wp2_with fail
      go_ret2
      exact ReadPost.no _ _ _ HR.out (HX.out _ hb2).1 (HX.out _ hb2).2

set_option maxRecDepth 100000 in
set_option maxHeartbeats 400000 in
theorem liBReadYes (b0 b1 m : Nat) (w0 W : World) (c0 : W.cell? ⟨b0, 0, none⟩ = some (.func (.func 70) #[] #[])) (c1 : W.cell? ⟨b1, 0, none⟩ = some (.func (.func 81) #[] #[])) (hw : Below w0.heap.size w0 W) (A : Option Addr) (n c : Nat) (b : List UInt8) (hn : b.length = n) (hnc : n ≤ c) (hcm : c ≤ maxLen) (hm : n ≤ 10000) (hb : Lies u8v w0 A b) (q : Nat) {S : Nat → Prop} (a : Ask) (h k : Option Addr × Nat × Nat) (x : AskAt W q S a h k)
    (h3 : 3 ≤ n) (h4 : (cutN (b.drop 2) 1).toNat ≤ n - 3) :
    Calls Tryz.prog 126 #[.slice A n c, .pointer (some ⟨q, 0, none⟩), .pointer (some ⟨b1, 0, none⟩), .pointer (some ⟨b0, 0, none⟩)] W (ReadPost w0 W q S (.bits m) b a) := by
  have hO := bitsOf_ok.ca
  have l0 := World.block_lt_of_cell? _ _ c0
  have l1 := World.block_lt_of_cell? _ _ c1
  have HC : Hid (Calls Tryz.prog 118 #[.slice A n c, .int .i64 2] W fun e w' => (∃ A' m c', e = .returned (.tuple #[.int .i64 ((cutN b 2).toNat : Int), .slice A' m c', .bool true]) ∧ (b.drop 2).length = m ∧ m ≤ c' ∧ c' ≤ maxLen ∧ Lies u8v w0 A' (b.drop 2)) ∧ Below W.heap.size W w') := qh ((cut6_any A n c 2 (.inr rfl) b hn hnc hcm (by omega) W (hb.below hw (zq _))).mono fun e w' hh => by
    unfold CutPost at hh
    rw [if_neg (by omega)] at hh
    obtain ⟨h1, A', m, c', h2, h3, h4, h5, h6⟩ := hh
    exact ⟨⟨A', m, c', h2, h3, h4, h5, h6 _ hb⟩, h1⟩)
  have HC2 : Hid (∀ A' m c' w1, (b.drop 2).length = m → m ≤ c' → c' ≤ maxLen → Lies u8v w0 A' (b.drop 2) → Below W.heap.size W w1 → Calls Tryz.prog 118 #[.slice A' m c', .int .i64 1] w1 fun e w' => (∃ A' m c', e = .returned (.tuple #[.int .i64 ((cutN (b.drop 2) 1).toNat : Int), .slice A' m c', .bool true]) ∧ ((b.drop 2).drop 1).length = m ∧ m ≤ c' ∧ c' ≤ maxLen ∧ Lies u8v w0 A' ((b.drop 2).drop 1)) ∧ Below W.heap.size W w') := qh (fun A' m c' w1 hl h3 h4 h5 h1 => (cut6_any A' m c' 1 (.inl rfl) (b.drop 2) hl h3 h4 (by rw [List.length_drop] at hl; omega) w1 (h5.below (hw.trans (h1.mono hw.size)) (zq _))).mono fun e w' hh => by
    unfold CutPost at hh
    rw [if_neg (by rw [List.length_drop] at hl; omega)] at hh
    obtain ⟨k1, A2, m2, c2, k2, k3, k4, k5, k6⟩ := hh
    exact ⟨⟨A2, m2, c2, k2, k3, k4, k5, k6 _ h5⟩, h1.trans (k1.mono h1.size)⟩)
  have hL3 : ((b.drop 2).drop 1).length = n - 3 := by rw [List.length_drop, List.length_drop]; omega
  have HR : Hid (PK.read b a (.bits m) = if Word.isBitsI (((b.drop 2).drop 1).take (cutN (b.drop 2) 1).toNat) ((cutN b 2).toNat : Nat) then some (((b.drop 2).drop 1).drop (cutN (b.drop 2) 1).toNat, { a with bits := Word.bitsOf (((b.drop 2).drop 1).take (cutN (b.drop 2) 1).toNat) (cutN b 2).toNat }) else none) := qh (by
    unfold PK.read
    dsimp only
    rw [if_neg (by omega), if_neg (by rw [List.length_drop]; omega), if_neg (by omega)])
  have hv1 := (cutN b 2).toNat_lt
  generalize (cutN b 2).toNat = N0 at *
  generalize (cutN (b.drop 2) 1).toNat = sz at *
  have hT : (((b.drop 2).drop 1).take sz).length = sz := by rw [List.length_take]; omega
  generalize ((b.drop 2).drop 1) = R at *
  have HT : Hid (∀ (A2 : Option Addr) (c2 : Nat) (X : World), n - 3 ≤ c2 → c2 ≤ maxLen → Lies u8v w0 A2 R → Below W.heap.size W X → Calls Tryz.prog 81 #[.slice A2 sz c2, .int .i64 (N0 : Int)] X (BitsPost X (R.take sz) (N0 : Int))) := qh (fun A2 c2 X hc2 hc3 hL hX => by
    have hL := (hL.take sz).below (hw.trans (hX.mono hw.size)) (zq _)
    generalize R.take sz = T at *
    exact bits_any A2 sz c2 T (N0 : Int) (by omega) hT (by omega) X hL)
  have HDR : Hid ((R.drop sz).length = n - 3 - sz) := qh (by rw [List.length_drop]; omega)
  generalize hTT : R.take sz = T at *
  clear hTT hb hn hw
  go_enter Tryz.func126, Tryz.ntmps126
  go_wp2_with fail
  refine HC.out.mono ?_
  rintro e w1 ⟨⟨A1, n1, c1', rfl, k1, k2, k3, k4⟩, hb1⟩
  go_wp2_with fail
  refine (HC2.out _ _ _ _ k1 k2 k3 k4 hb1).mono ?_
  rintro e w2 ⟨⟨A2, n2, c2, rfl, p1, p2, p3, p4⟩, hb2⟩
  have hn2 : n2 = n - 3 := by omega
  subst hn2
  have i1 : ¬ ((sz : Int) > ((n - 3 : Nat) : Int)) := by omega
  have i2 : (sz : Int) ≤ ((n - 3 : Nat) : Int) := by omega
  have i3 : (sz : Int) ≤ (c2 : Int) := by omega
  obtain ⟨Y, hY, hYL⟩ := slice_off (f := u8v) A2 (n - 3) c2 sz R p1 (by omega) p2
  have HYL := qh (hYL _ p4)
  have d0 := (hb2.cell (p := ⟨b0, 0, none⟩) l0).trans c0
  have d1 := (hb2.cell (p := ⟨b1, 0, none⟩) l1).trans c1
  have e1 : w2.drew.cell? ⟨b1, 0, none⟩ = some (.func (.func 81) #[] #[]) := d1
  have HU := qh (HT.out A2 c2 w2.drew p2 p3 p4 (drewN_below hb2 1))
  have HX2 := qh (fun (w' : World) (hb : Below w2.drew.heap.size w2.drew w') => (show Below W.heap.size W w' from (drewN_below hb2 1).trans (hb.mono hb2.size)))
  have HLT := qh hb2.size
  clear hYL HC HC2 HT k1 k2 k3 k4 p1 p4 d1
  go_wp2_with fail
  go_region_held3 (fun X => X.cell? ⟨b1, 0, none⟩ = some (.func (.func 81) #[] #[])) (first | with_reducible assumption | fail) (first | (go_at_call 81; (with_reducible refine HU.out.mono ?_); rintro e w3 ⟨A3, n3, c3, rfl, g1, g2, g3, g4, g5, g6⟩; have f1 := cell_later g5 e1) | fail)
  have hb3 := HX2.out _ g5
  have x3 := x.below hb3
  have d3 := (hb3.cell (p := ⟨b0, 0, none⟩) l0).trans c0
  have hc := x3.cell (i := 5) (v := .slice k.1 k.2.1 k.2.2) rfl
  have hf := x3.free 5
  have hql := x.lt
  have HS := qh (x3.setB (Word.ansBitsI T (N0 : Nat)) A3 n3 c3 g1 g2 g3 g4 (fun b o s e h0 => by have h1 := g6 b o s e h0; have h2 := HLT.out; have h3 : w2.drew.heap.size = w2.heap.size := rfl; exact fun hs => absurd (x.sl _ hs) (by omega)))
  have HB := qh ((But.of_below hb3 (zq _) [q]).trans (But.one w3 q 5 (.slice A3 n3 c3)))
  clear g1 g2 g3 g4 g5 g6 x3 hb3
  cases hmay : Word.isBitsI T (N0 : Nat) with
  | false =>
    have HM := qh hmay
    try rw [hmay]
    clear hmay
    go_wp2_with (go_at_call 70; refine (hO _ _).mono ?_; rintro e w' ⟨rfl, rfl⟩)
    go_ret2
    exact ReadPost.no _ _ _ (by rw [HR.out, HM.out]; rfl) HS.out HB.out
  | true =>
    have HM := qh hmay
    have HA : Hid (Word.ansBitsI T (N0 : Nat) = Word.bitsOf T N0) := qh (by have := hmay; unfold Word.ansBitsI; rw [this, Int.toNat_natCast]; rfl)
    try rw [hmay]
    clear hmay
    go_wp2_with (go_at_call 70; refine (hO _ _).mono ?_; rintro e w' ⟨rfl, rfl⟩)
    go_ret2
    rw [HA.out] at HS
    exact ReadPost.yes (by rw [HR.out, HM.out]; rfl) HS.out HB.out HDR.out (by omega) (by omega) HYL.out

theorem liBRead (b0 b1 m : Nat) (w0 W : World) (c0 : W.cell? ⟨b0, 0, none⟩ = some (.func (.func 70) #[] #[])) (c1 : W.cell? ⟨b1, 0, none⟩ = some (.func (.func 81) #[] #[])) (hw : Below w0.heap.size w0 W) (A : Option Addr) (n c : Nat) (b : List UInt8) (hn : b.length = n) (hnc : n ≤ c) (hcm : c ≤ maxLen) (hm : n ≤ 10000) (hb : Lies u8v w0 A b) (q : Nat) {S : Nat → Prop} (a : Ask) (h k : Option Addr × Nat × Nat) (x : AskAt W q S a h k) :
    Calls Tryz.prog 126 #[.slice A n c, .pointer (some ⟨q, 0, none⟩), .pointer (some ⟨b1, 0, none⟩), .pointer (some ⟨b0, 0, none⟩)] W (ReadPost w0 W q S (.bits m) b a) := by
  by_cases g : 3 ≤ n ∧ (cutN (b.drop 2) 1).toNat ≤ n - 3
  · exact liBReadYes b0 b1 m w0 W c0 c1 hw A n c b hn hnc hcm hm hb q a h k x g.1 g.2
  · refine liBReadNo b0 b1 m w0 W hw A n c b hn hnc hcm hm hb q a h k x ?_
    rcases Nat.lt_or_ge n 2 with h1 | h1
    · exact .inl h1
    · rcases Nat.lt_or_ge n 3 with h2 | h2
      · exact .inr (.inl (by omega))
      · exact .inr (.inr ⟨h2, by rcases Nat.lt_or_ge (n - 3) (cutN (b.drop 2) 1).toNat with h3 | h3; exact h3; exact absurd ⟨h2, h3⟩ g⟩)

set_option maxRecDepth 100000 in
set_option maxHeartbeats 400000 in
theorem liWDrop (b0 : Nat) (W : World) (c0 : W.cell? ⟨b0, 0, none⟩ = some (.func (.func 75) #[] #[])) (q : Nat) {S : Nat → Prop} (a : Ask) (h k : Option Addr × Nat × Nat) (x : AskAt W q S a h k) :
    Calls Tryz.prog 158 #[.pointer (some ⟨q, 0, none⟩), .pointer (some ⟨b0, 0, none⟩)] W fun e w' => (∃ v, e = .returned v) ∧ ∃ h' k', AskAt w' q S { a with words := [] } h' k' ∧ But [q] W w' := by
  have hO := wordsOf_ok.ca
  have hc := x.cell (i := 4) (v := .slice h.1 h.2.1 h.2.2) rfl
  have hf := x.free 4
  have HS := qh (x.setW [] none 0 0 rfl (zq _) (Nat.zero_le _) (Lies.nil _ _) (fun _ _ _ e => by cases e))
  have HB := qh (But.one W q 4 (.slice none 0 0))
  clear x
  go_enter Tryz.func158, Tryz.ntmps158
  go_wp2_with (go_at_call 75; refine (hO _ _).mono ?_; rintro e w' ⟨rfl, rfl⟩)
  refine bodyPost_end (results_none rfl _ _ _) rfl ?_
  exact ⟨⟨_, rfl⟩, _, _, HS.out, HB.out⟩

set_option maxRecDepth 100000 in
set_option maxHeartbeats 400000 in
theorem liWReadNo (b0 b1 m : Nat) (w0 W : World) (hw : Below w0.heap.size w0 W) (A : Option Addr) (n c : Nat) (b : List UInt8) (hn : b.length = n) (hnc : n ≤ c) (hcm : c ≤ maxLen) (hm : n ≤ 10000) (hb : Lies u8v w0 A b) (q : Nat) {S : Nat → Prop} (a : Ask) (h k : Option Addr × Nat × Nat) (x : AskAt W q S a h k)
    (hno : n < 2 ∨ n = 2 ∨ 3 ≤ n ∧ n - 3 < (cutN (b.drop 2) 1).toNat) :
    Calls Tryz.prog 157 #[.slice A n c, .pointer (some ⟨q, 0, none⟩), .pointer (some ⟨b1, 0, none⟩), .pointer (some ⟨b0, 0, none⟩)] W (ReadPost w0 W q S (.words m) b a) := by
  have hC := cut6_any A n c 2 (.inr rfl) b hn hnc hcm (by omega) W (hb.below hw (zq _))
  have HR : Hid (PK.read b a (.words m) = none) := qh (by
    unfold PK.read
    dsimp only
    rcases hno with g | g | ⟨g, g2⟩
    · rw [if_pos (by omega)]
    · rw [if_neg (by omega), if_pos (by rw [List.length_drop]; omega)]
    · rw [if_neg (by omega), if_neg (by rw [List.length_drop]; omega), if_pos (by rw [List.length_drop, List.length_drop]; omega)])
  have HX := qh (fun (w' : World) (hb : Below W.heap.size W w') => (⟨x.below hb, But.of_below hb (zq _) [q]⟩ : AskAt w' q S a h k ∧ But [q] W w'))
  rcases hno with hlt | hno
  · have HC : Hid (Calls Tryz.prog 118 #[.slice A n c, .int .i64 2] W fun e w' => e = .returned (.tuple #[.int .i64 0, .slice none 0 0, .bool false]) ∧ Below W.heap.size W w') := qh (hC.mono fun e w' hh => by
      unfold CutPost at hh
      rw [if_pos hlt] at hh
      exact ⟨hh.2, hh.1⟩)
    have HC2 : Hid (∀ w1, Below W.heap.size W w1 → Calls Tryz.prog 118 #[.slice none 0 0, .int .i64 1] w1 fun e w' => e = .returned (.tuple #[.int .i64 0, .slice none 0 0, .bool false]) ∧ Below W.heap.size W w') := qh (fun w1 h1 => (cut6_none none 0 0 1 [] (by omega) (by omega) w1).mono fun e w' hh => by
      unfold CutPost at hh
      rw [if_pos (by omega)] at hh
      exact ⟨hh.2, h1.trans (hh.1.mono h1.size)⟩)
    clear hC hn x
    go_enter Tryz.func157, Tryz.ntmps157
    go_wp2_with fail
    refine HC.out.mono ?_
    rintro e w1 ⟨rfl, hb1⟩
    go_wp2_with fail
    refine (HC2.out _ hb1).mono ?_
    rintro e w2 ⟨rfl, hb2⟩
    go_wp2_with fail
    go_ret2
    exact ReadPost.no _ _ _ HR.out (HX.out _ hb2).1 (HX.out _ hb2).2
  · have h2 : ¬ n < 2 := by omega
    have HC : Hid (Calls Tryz.prog 118 #[.slice A n c, .int .i64 2] W fun e w' => (∃ A' m c', e = .returned (.tuple #[.int .i64 ((cutN b 2).toNat : Int), .slice A' m c', .bool true]) ∧ (b.drop 2).length = m ∧ m ≤ c' ∧ c' ≤ maxLen ∧ Lies u8v w0 A' (b.drop 2)) ∧ Below W.heap.size W w') := qh (hC.mono fun e w' hh => by
      unfold CutPost at hh
      rw [if_neg h2] at hh
      obtain ⟨h1, A', m, c', h2, h3, h4, h5, h6⟩ := hh
      exact ⟨⟨A', m, c', h2, h3, h4, h5, h6 _ hb⟩, h1⟩)
    have HW := qh hw
    generalize cutN b 2 = V at *
    rcases hno with g | ⟨g, g2⟩
    · have HC2 : Hid (∀ A' m c' w1, (b.drop 2).length = m → Below W.heap.size W w1 → Calls Tryz.prog 118 #[.slice A' m c', .int .i64 1] w1 fun e w' => e = .returned (.tuple #[.int .i64 0, .slice none 0 0, .bool false]) ∧ Below W.heap.size W w') := qh (fun A' m c' w1 hl h1 => (cut6_none A' m c' 1 [] (by rw [List.length_drop] at hl; omega) (by omega) w1).mono fun e w' hh => by
        unfold CutPost at hh
        rw [if_pos (by rw [List.length_drop] at hl; omega)] at hh
        exact ⟨hh.2, h1.trans (hh.1.mono h1.size)⟩)
      clear hC hn x hb hw g
      go_enter Tryz.func157, Tryz.ntmps157
      go_wp2_with fail
      refine HC.out.mono ?_
      rintro e w1 ⟨⟨A1, n1, c1, rfl, k1, k2, k3, k4⟩, hb1⟩
      go_wp2_with fail
      refine (HC2.out _ _ _ _ k1 hb1).mono ?_
      rintro e w2 ⟨rfl, hb2⟩
      go_wp2_with fail
      go_ret2
      exact ReadPost.no _ _ _ HR.out (HX.out _ hb2).1 (HX.out _ hb2).2
    · have HC2 : Hid (∀ A' m c' w1, (b.drop 2).length = m → m ≤ c' → c' ≤ maxLen → Lies u8v w0 A' (b.drop 2) → Below W.heap.size W w1 → Calls Tryz.prog 118 #[.slice A' m c', .int .i64 1] w1 fun e w' => (∃ A' m c', e = .returned (.tuple #[.int .i64 ((cutN (b.drop 2) 1).toNat : Int), .slice A' m c', .bool true]) ∧ (m : Int) < ((cutN (b.drop 2) 1).toNat : Int)) ∧ Below W.heap.size W w') := qh (fun A' m c' w1 hl h3 h4 h5 h1 => (cut6_any A' m c' 1 (.inl rfl) (b.drop 2) hl h3 h4 (by rw [List.length_drop] at hl; omega) w1 (h5.below (hw.trans (h1.mono hw.size)) (zq _))).mono fun e w' hh => by
        unfold CutPost at hh
        rw [if_neg (by rw [List.length_drop] at hl; omega)] at hh
        obtain ⟨k1, A2, m2, c2, k2, k3, k4, k5, k6⟩ := hh
        exact ⟨⟨A2, m2, c2, k2, by rw [List.length_drop, List.length_drop] at k3; omega⟩, h1.trans (k1.mono h1.size)⟩)
      generalize cutN (b.drop 2) 1 = V2 at *
      clear hC hn x hb hw g2
      go_enter Tryz.func157, Tryz.ntmps157
      go_wp2_with fail
      refine HC.out.mono ?_
      rintro e w1 ⟨⟨A1, n1, c1, rfl, k1, k2, k3, k4⟩, hb1⟩
      go_wp2_with fail
      refine (HC2.out _ _ _ _ k1 k2 k3 k4 hb1).mono ?_
      rintro e w2 ⟨⟨A2, n2, c2, rfl, k5⟩, hb2⟩
      have k6 : ((V2.toNat : Int) > (n2 : Int)) := k5
      go_wp2_with fail
      go_ret2
      exact ReadPost.no _ _ _ HR.out (HX.out _ hb2).1 (HX.out _ hb2).2

set_option maxRecDepth 100000 in
set_option maxHeartbeats 400000 in
theorem liWReadYes (b0 b1 m : Nat) (w0 W : World) (c0 : W.cell? ⟨b0, 0, none⟩ = some (.func (.func 75) #[] #[])) (c1 : W.cell? ⟨b1, 0, none⟩ = some (.func (.func 134) #[] #[])) (hw : Below w0.heap.size w0 W) (A : Option Addr) (n c : Nat) (b : List UInt8) (hn : b.length = n) (hnc : n ≤ c) (hcm : c ≤ maxLen) (hm : n ≤ 10000) (hb : Lies u8v w0 A b) (q : Nat) {S : Nat → Prop} (a : Ask) (h k : Option Addr × Nat × Nat) (x : AskAt W q S a h k)
    (h3 : 3 ≤ n) (h4 : (cutN (b.drop 2) 1).toNat ≤ n - 3) :
    Calls Tryz.prog 157 #[.slice A n c, .pointer (some ⟨q, 0, none⟩), .pointer (some ⟨b1, 0, none⟩), .pointer (some ⟨b0, 0, none⟩)] W (ReadPost w0 W q S (.words m) b a) := by
  have hO := wordsOf_ok.ca
  have l0 := World.block_lt_of_cell? _ _ c0
  have l1 := World.block_lt_of_cell? _ _ c1
  have HC : Hid (Calls Tryz.prog 118 #[.slice A n c, .int .i64 2] W fun e w' => (∃ A' m c', e = .returned (.tuple #[.int .i64 ((cutN b 2).toNat : Int), .slice A' m c', .bool true]) ∧ (b.drop 2).length = m ∧ m ≤ c' ∧ c' ≤ maxLen ∧ Lies u8v w0 A' (b.drop 2)) ∧ Below W.heap.size W w') := qh ((cut6_any A n c 2 (.inr rfl) b hn hnc hcm (by omega) W (hb.below hw (zq _))).mono fun e w' hh => by
    unfold CutPost at hh
    rw [if_neg (by omega)] at hh
    obtain ⟨h1, A', m, c', h2, h3, h4, h5, h6⟩ := hh
    exact ⟨⟨A', m, c', h2, h3, h4, h5, h6 _ hb⟩, h1⟩)
  have HC2 : Hid (∀ A' m c' w1, (b.drop 2).length = m → m ≤ c' → c' ≤ maxLen → Lies u8v w0 A' (b.drop 2) → Below W.heap.size W w1 → Calls Tryz.prog 118 #[.slice A' m c', .int .i64 1] w1 fun e w' => (∃ A' m c', e = .returned (.tuple #[.int .i64 ((cutN (b.drop 2) 1).toNat : Int), .slice A' m c', .bool true]) ∧ ((b.drop 2).drop 1).length = m ∧ m ≤ c' ∧ c' ≤ maxLen ∧ Lies u8v w0 A' ((b.drop 2).drop 1)) ∧ Below W.heap.size W w') := qh (fun A' m c' w1 hl h3 h4 h5 h1 => (cut6_any A' m c' 1 (.inl rfl) (b.drop 2) hl h3 h4 (by rw [List.length_drop] at hl; omega) w1 (h5.below (hw.trans (h1.mono hw.size)) (zq _))).mono fun e w' hh => by
    unfold CutPost at hh
    rw [if_neg (by rw [List.length_drop] at hl; omega)] at hh
    obtain ⟨k1, A2, m2, c2, k2, k3, k4, k5, k6⟩ := hh
    exact ⟨⟨A2, m2, c2, k2, k3, k4, k5, k6 _ h5⟩, h1.trans (k1.mono h1.size)⟩)
  have hL3 : ((b.drop 2).drop 1).length = n - 3 := by rw [List.length_drop, List.length_drop]; omega
  have HR : Hid (PK.read b a (.words m) = if (Word.isWords (((b.drop 2).drop 1).take (cutN (b.drop 2) 1).toNat) && decide ((Word.words (((b.drop 2).drop 1).take (cutN (b.drop 2) 1).toNat)).length = (cutN b 2).toNat)) then some (((b.drop 2).drop 1).drop (cutN (b.drop 2) 1).toNat, { a with words := Word.words (((b.drop 2).drop 1).take (cutN (b.drop 2) 1).toNat) }) else none) := qh (by
    unfold PK.read
    dsimp only
    rw [if_neg (by omega), if_neg (by rw [List.length_drop]; omega), if_neg (by omega)])
  have hv1 := (cutN b 2).toNat_lt
  generalize (cutN b 2).toNat = N0 at *
  generalize (cutN (b.drop 2) 1).toNat = sz at *
  have hT : (((b.drop 2).drop 1).take sz).length = sz := by rw [List.length_take]; omega
  generalize ((b.drop 2).drop 1) = R at *
  have HT : Hid (∀ (A2 : Option Addr) (c2 : Nat) (X : World), n - 3 ≤ c2 → c2 ≤ maxLen → Lies u8v w0 A2 R → Below W.heap.size W X → Calls Tryz.prog 134 #[.slice A2 sz c2, .int .i64 (N0 : Int)] X (WordsInPost X (R.take sz) N0)) := qh (fun A2 c2 X hc2 hc3 hL hX => by
    have hL := (hL.take sz).below (hw.trans (hX.mono hw.size)) (zq _)
    generalize R.take sz = T at *
    exact wordsIn_any A2 sz c2 N0 T hT (by omega) (by omega) X hL)
  have HDR : Hid ((R.drop sz).length = n - 3 - sz) := qh (by rw [List.length_drop]; omega)
  generalize hTT : R.take sz = T at *
  clear hTT hb hn hw
  go_enter Tryz.func157, Tryz.ntmps157
  go_wp2_with fail
  refine HC.out.mono ?_
  rintro e w1 ⟨⟨A1, n1, c1', rfl, k1, k2, k3, k4⟩, hb1⟩
  go_wp2_with fail
  refine (HC2.out _ _ _ _ k1 k2 k3 k4 hb1).mono ?_
  rintro e w2 ⟨⟨A2, n2, c2, rfl, p1, p2, p3, p4⟩, hb2⟩
  have hn2 : n2 = n - 3 := by omega
  subst hn2
  have i1 : ¬ ((sz : Int) > ((n - 3 : Nat) : Int)) := by omega
  have i2 : (sz : Int) ≤ ((n - 3 : Nat) : Int) := by omega
  have i3 : (sz : Int) ≤ (c2 : Int) := by omega
  obtain ⟨Y, hY, hYL⟩ := slice_off (f := u8v) A2 (n - 3) c2 sz R p1 (by omega) p2
  have HYL := qh (hYL _ p4)
  have d0 := (hb2.cell (p := ⟨b0, 0, none⟩) l0).trans c0
  have d1 := (hb2.cell (p := ⟨b1, 0, none⟩) l1).trans c1
  have e1 : w2.drew.cell? ⟨b1, 0, none⟩ = some (.func (.func 134) #[] #[]) := d1
  have HU := qh (HT.out A2 c2 w2.drew p2 p3 p4 (drewN_below hb2 1))
  have HX2 := qh (fun (w' : World) (hb : Below w2.drew.heap.size w2.drew w') => (show Below W.heap.size W w' from (drewN_below hb2 1).trans (hb.mono hb2.size)))
  have HLT := qh hb2.size
  clear hYL HC HC2 HT k1 k2 k3 k4 p1 p4 d1
  go_wp2_with fail
  go_region_held3 (fun X => X.cell? ⟨b1, 0, none⟩ = some (.func (.func 134) #[] #[])) (first | with_reducible assumption | fail) (first | (go_at_call 134; (with_reducible refine HU.out.mono ?_); rintro e w3 ⟨A3, n3, c3, rfl, g1, g2, g3, g4, g5, g6⟩; have f1 := cell_later g5 e1) | fail)
  have hb3 := HX2.out _ g5
  have x3 := x.below hb3
  have d3 := (hb3.cell (p := ⟨b0, 0, none⟩) l0).trans c0
  have hc := x3.cell (i := 4) (v := .slice h.1 h.2.1 h.2.2) rfl
  have hf := x3.free 4
  have hql := x.lt
  have HS := qh (x3.setW (Word.ansWords T) A3 n3 c3 g1 g2 g3 g4 (fun b o s e h0 => by have h1 := g6 b o s e h0; have h2 := HLT.out; have h3 : w2.drew.heap.size = w2.heap.size := rfl; exact fun hs => absurd (x.sl _ hs) (by omega)))
  have HB := qh ((But.of_below hb3 (zq _) [q]).trans (But.one w3 q 4 (.slice A3 n3 c3)))
  clear g1 g2 g3 g4 g5 g6 x3 hb3
  cases hmay : (Word.isWords T && decide ((Word.words T).length = N0)) with
  | false =>
    have HM := qh hmay
    try rw [hmay]
    clear hmay
    go_wp2_with (go_at_call 75; refine (hO _ _).mono ?_; rintro e w' ⟨rfl, rfl⟩)
    go_ret2
    exact ReadPost.no _ _ _ (by rw [HR.out, HM.out]; rfl) HS.out HB.out
  | true =>
    have HM := qh hmay
    have HA : Hid (Word.ansWords T = Word.words T) := qh (ansWords_yes (by have := hmay; rw [Bool.and_eq_true] at this; exact this.1))
    try rw [hmay]
    clear hmay
    go_wp2_with (go_at_call 75; refine (hO _ _).mono ?_; rintro e w' ⟨rfl, rfl⟩)
    go_ret2
    rw [HA.out] at HS
    exact ReadPost.yes (by rw [HR.out, HM.out]; rfl) HS.out HB.out HDR.out (by omega) (by omega) HYL.out

theorem liWRead (b0 b1 m : Nat) (w0 W : World) (c0 : W.cell? ⟨b0, 0, none⟩ = some (.func (.func 75) #[] #[])) (c1 : W.cell? ⟨b1, 0, none⟩ = some (.func (.func 134) #[] #[])) (hw : Below w0.heap.size w0 W) (A : Option Addr) (n c : Nat) (b : List UInt8) (hn : b.length = n) (hnc : n ≤ c) (hcm : c ≤ maxLen) (hm : n ≤ 10000) (hb : Lies u8v w0 A b) (q : Nat) {S : Nat → Prop} (a : Ask) (h k : Option Addr × Nat × Nat) (x : AskAt W q S a h k) :
    Calls Tryz.prog 157 #[.slice A n c, .pointer (some ⟨q, 0, none⟩), .pointer (some ⟨b1, 0, none⟩), .pointer (some ⟨b0, 0, none⟩)] W (ReadPost w0 W q S (.words m) b a) := by
  by_cases g : 3 ≤ n ∧ (cutN (b.drop 2) 1).toNat ≤ n - 3
  · exact liWReadYes b0 b1 m w0 W c0 c1 hw A n c b hn hnc hcm hm hb q a h k x g.1 g.2
  · refine liWReadNo b0 b1 m w0 W hw A n c b hn hnc hcm hm hb q a h k x ?_
    rcases Nat.lt_or_ge n 2 with h1 | h1
    · exact .inl h1
    · rcases Nat.lt_or_ge n 3 with h2 | h2
      · exact .inr (.inl (by omega))
      · exact .inr (.inr ⟨h2, by rcases Nat.lt_or_ge (n - 3) (cutN (b.drop 2) 1).toNat with h3 | h3; exact h3; exact absurd ⟨h2, h3⟩ g⟩)
end Go.Proofs.YtlgmjnjhdamknaaGreat
