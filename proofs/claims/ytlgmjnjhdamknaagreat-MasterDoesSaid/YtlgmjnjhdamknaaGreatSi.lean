
/- A part of the proof of the law MasterDoes. -/
import Derived.Test.YtlgmjnjhdamknaaGreatMem
import Derived.Test.YtlgmjnjhdamknaaGreatKp
namespace Go.Proofs.YtlgmjnjhdamknaaGreat
open Go.RowKit Go.Shelf

theorem alloc_set (w : World) (o : Obj) (q i : Nat) (v : Value) (h : q < w.heap.size) : (w.alloc o).setCell ⟨q, i, none⟩ v = (w.setCell ⟨q, i, none⟩ v).alloc o := by
  unfold World.alloc World.setCell
  simp only [World.mk.injEq, and_true]
  apply Array.ext_getElem?
  intro j
  simp only [Array.getElem?_modify, Array.getElem?_push, Array.size_modify]
  by_cases h1 : q = j
  · subst h1
    rw [if_pos rfl, if_neg (by omega), if_neg (by omega), if_pos rfl]
  · rw [if_neg h1, if_neg h1]
def bitN (y : Bool) : UInt16 := if y then 65280 else 0
theorem putBit6 (y : Bool) (W : World) : Calls Tryz.prog 71 #[bitv y] W fun e w' => e = .returned (.int .i64 ((bitN y).toNat : Int)) ∧ w' = W := by
  have := putBit_any y W
  cases y <;> exact this
theorem getBit6 (V : UInt16) (W : World) : Calls Tryz.prog 72 #[.int .i64 (V.toNat : Int)] W fun e w' => e = .returned (.tuple #[bitv (V == 65280), .bool (V == 65280 || V == 0)]) ∧ w' = W := by
  have h1 : ((V.toNat : Int) == 65280) = (V == 65280) := by
    rw [Bool.eq_iff_iff, beq_iff_eq, beq_iff_eq]
    constructor
    · intro h; exact UInt16.toNat_inj.1 (by show V.toNat = 65280; omega)
    · rintro rfl; rfl
  have h2 : ((V.toNat : Int) == 0) = (V == 0) := by
    rw [Bool.eq_iff_iff, beq_iff_eq, beq_iff_eq]
    constructor
    · intro h; exact UInt16.toNat_inj.1 (by show V.toNat = 0; omega)
    · rintro rfl; rfl
  have := getBit_any (V.toNat : Int) W
  rw [h1, h2] at this
  exact this
theorem getWord6 (V : UInt16) (W : World) : Calls Tryz.prog 77 #[.int .i64 (V.toNat : Int)] W fun e w' => e = .returned (.tuple #[u16v V, .bool true]) ∧ w' = W := getWord_any V.toNat V.toNat_lt W

set_option maxRecDepth 100000 in
set_option maxHeartbeats 400000 in
theorem siBFits (b0 : Nat) (W : World) (c0 : W.cell? ⟨b0, 0, none⟩ = some (.func (.func 70) #[] #[])) (a : Ask) (h k : Option Addr × Nat × Nat) (ha : AskIn W a h k) :
    Calls Tryz.prog 114 #[askV a h k, .pointer (some ⟨b0, 0, none⟩)] W fun e w' => e = .returned (.bool (a.bits.length == 1)) ∧ Below W.heap.size W w' := by
  have hO := bitsOf_ok.ca
  have hc := box_cell W (askCells a h k) 40 5 (.slice k.1 k.2.1 k.2.2) rfl
  have l0 := World.block_lt_of_cell? _ _ c0
  have HN := qh ha.kn
  unfold askCells at hc
  rw [askV_eq]
  obtain ⟨e1, e2, e3⟩ := k
  dsimp only at *
  clear ha
  by_cases g : e2 = 1
  · subst g
    go_enter Tryz.func114, Tryz.ntmps114
    go_wp2_with (go_at_call 70; refine (hO _ _).mono ?_; rintro e w' ⟨rfl, rfl⟩)
    go_ret
    exact ⟨by rw [HN.out]; rfl, (Below.refl _ _).alloc (zq _) _⟩
  · have g' : ((e2 : Int) == 1) = false := by rw [beq_eq_false_iff_ne]; omega
    go_enter Tryz.func114, Tryz.ntmps114
    go_wp2_with (go_at_call 70; refine (hO _ _).mono ?_; rintro e w' ⟨rfl, rfl⟩)
    go_ret
    exact ⟨by rw [HN.out, beq_eq_false_iff_ne.2 g]; first | rfl | simp [g'], (Below.refl _ _).alloc (zq _) _⟩

set_option maxRecDepth 100000 in
set_option maxHeartbeats 400000 in
theorem siBLay (b0 b1 : Nat) (Wa W : World) (c0 : W.cell? ⟨b0, 0, none⟩ = some (.func (.func 70) #[] #[])) (c1 : W.cell? ⟨b1, 0, none⟩ = some (.func (.func 71) #[] #[])) (a : Ask) (h k : Option Addr × Nat × Nat) (hWa : Below Wa.heap.size Wa W) (ha : AskIn Wa a h k) (y : Bool) (hy : a.bits = [y])
    (B : Nat) (v : Value) (n : Nat) (xs : List UInt8) (hown : W.ownsRow B 5 1 v n (xs.map u8v)) (hB : B ≤ W.heap.size) (hWB : Wa.heap.size ≤ B) (hB0 : b0 < B) (hB1 : b1 < B) (hn : n ≤ 20000) :
    Calls Tryz.prog 115 #[v, askV a h k, .pointer (some ⟨b1, 0, none⟩), .pointer (some ⟨b0, 0, none⟩)] W fun e w' => ∃ A c, e = .returned (.slice A (n + 2) c) ∧ w'.ownsRow B 5 1 (.slice A (n + 2) c) (n + 2) ((xs ++ low (bitN y) 2).map u8v) ∧ Below B W w' := by
  have h1 : k.2.1 = 1 := by rw [← ha.kn, hy]; rfl
  obtain ⟨eb, eo, eA, hel0⟩ := ha.kl 0 (by rw [hy]; simp)
  obtain ⟨e1, e2, e3⟩ := k
  obtain rfl : e2 = 1 := h1
  obtain rfl : e1 = some ⟨eb, eo, none⟩ := eA
  have hO := bitsOf_ok.ca
  have hP := fun W => putBit6 y W
  have hc := box_cell W #[.int .i64 a.code, .int .i64 a.addr, .int .i64 a.count, .int .i64 a.to, .slice h.1 h.2.1 h.2.2, .slice (some ⟨eb, eo, none⟩) 1 e3, u16v a.and_, u16v a.or_] 40 5 (.slice (some ⟨eb, eo, none⟩) 1 e3) rfl
  have hel : W.cell? ⟨eb, eo, none⟩ = some (bitv y) := by
    have := (hWa.cell (p := ⟨eb, eo + 0, none⟩) (World.block_lt_of_cell? _ _ hel0)).trans hel0
    simpa [hy] using this
  have hebl : eb < Wa.heap.size := World.block_lt_of_cell? _ _ hel0
  have l0 := World.block_lt_of_cell? _ _ c0
  have l1 := World.block_lt_of_cell? _ _ c1
  have l2 : eb < W.heap.size := World.block_lt_of_cell? _ _ hel
  have hb1 : Below W.heap.size W (W.alloc (.cells #[.int .i64 a.code, .int .i64 a.addr, .int .i64 a.count, .int .i64 a.to, .slice h.1 h.2.1 h.2.2, .slice (some ⟨eb, eo, none⟩) 1 e3, u16v a.and_, u16v a.or_] 40)) := (Below.refl _ _).alloc (zq _) _
  have d0 : (W.alloc (.cells #[.int .i64 a.code, .int .i64 a.addr, .int .i64 a.count, .int .i64 a.to, .slice h.1 h.2.1 h.2.2, .slice (some ⟨eb, eo, none⟩) 1 e3, u16v a.and_, u16v a.or_] 40)).drew.cell? ⟨b0, 0, none⟩ = some (.func (.func 70) #[] #[]) := (hb1.cell (p := ⟨b0, 0, none⟩) l0).trans c0
  have d1 : (W.alloc (.cells #[.int .i64 a.code, .int .i64 a.addr, .int .i64 a.count, .int .i64 a.to, .slice h.1 h.2.1 h.2.2, .slice (some ⟨eb, eo, none⟩) 1 e3, u16v a.and_, u16v a.or_] 40)).drew.cell? ⟨b1, 0, none⟩ = some (.func (.func 71) #[] #[]) := (hb1.cell (p := ⟨b1, 0, none⟩) l1).trans c1
  have d2 : (W.alloc (.cells #[.int .i64 a.code, .int .i64 a.addr, .int .i64 a.count, .int .i64 a.to, .slice h.1 h.2.1 h.2.2, .slice (some ⟨eb, eo, none⟩) 1 e3, u16v a.and_, u16v a.or_] 40)).drew.cell? ⟨W.heap.size, 5, none⟩ = some (.slice (some ⟨eb, eo, none⟩) 1 e3) := hc
  have d3 : (W.alloc (.cells #[.int .i64 a.code, .int .i64 a.addr, .int .i64 a.count, .int .i64 a.to, .slice h.1 h.2.1 h.2.2, .slice (some ⟨eb, eo, none⟩) 1 e3, u16v a.and_, u16v a.or_] 40)).drew.cell? ⟨eb, eo, none⟩ = some (bitv y) := (hb1.cell (p := ⟨eb, eo, none⟩) l2).trans hel
  have HN : Hid (v.ownBlock ≠ some b0 ∧ v.ownBlock ≠ some b1 ∧ v.ownBlock ≠ some W.heap.size ∧ v.ownBlock ≠ some eb) := qh ⟨fun e => absurd (hown.lt _ e).1 (by omega), fun e => absurd (hown.lt _ e).1 (by omega), fun e => absurd (hown.lt _ e).2 (by omega), fun e => absurd (hown.lt _ e).1 (by omega)⟩
  obtain ⟨V, hV⟩ : ∃ V, (bitN y) = V := ⟨_, rfl⟩
  rw [hV] at hP
  rw [hV]
  
  have HP : Hid (∀ X : World, X.ownsRow B 5 1 v n (xs.map u8v) → B ≤ X.heap.size → Calls Tryz.prog 116 #[v, .int .i64 (V.toNat : Int), .int .i64 2] X fun e w' => ∃ A c, e = .returned (.slice A (n + 2) c) ∧ w'.ownsRow B 5 1 (.slice A (n + 2) c) (n + 2) ((xs ++ low V 2).map u8v) ∧ Below B X w' ∧ X.grownBy w' v.ownBlock ∧ (∀ g, (Value.slice A (n + 2) c).ownBlock = some g → v.ownBlock = some g ∨ X.heap.size ≤ g)) := qh (fun X ho hz => put6_any V 2 (.inr rfl) B v n xs X ho hz (by omega))
  have hown1d : (W.alloc (.cells #[.int .i64 a.code, .int .i64 a.addr, .int .i64 a.count, .int .i64 a.to, .slice h.1 h.2.1 h.2.2, .slice (some ⟨eb, eo, none⟩) 1 e3, u16v a.and_, u16v a.or_] 40)).drew.ownsRow B 5 1 v n (xs.map u8v) := hown.alloc _
  have HZ : Hid (B ≤ (W.alloc (.cells #[.int .i64 a.code, .int .i64 a.addr, .int .i64 a.count, .int .i64 a.to, .slice h.1 h.2.1 h.2.2, .slice (some ⟨eb, eo, none⟩) 1 e3, u16v a.and_, u16v a.or_] 40)).drew.heap.size) := qh (Nat.le_trans hB hb1.size)
  have HB : Hid (Below B W (W.alloc (.cells #[.int .i64 a.code, .int .i64 a.addr, .int .i64 a.count, .int .i64 a.to, .slice h.1 h.2.1 h.2.2, .slice (some ⟨eb, eo, none⟩) 1 e3, u16v a.and_, u16v a.or_] 40)).drew) := qh (drewN_below (hb1.mono hB) 1)
  clear hown hb1 hc hel hel0 c0 c1 hV
  clear ha hWa hy
  rw [askV_eq]
  dsimp only
  go_enter Tryz.func115, Tryz.ntmps115
  go_wp2_with fail
  go_region_held3 (fun X => X.cell? ⟨b0, 0, none⟩ = some (.func (.func 70) #[] #[]) ∧ X.cell? ⟨b1, 0, none⟩ = some (.func (.func 71) #[] #[]) ∧ X.cell? ⟨W.heap.size, 5, none⟩ = some (.slice (some ⟨eb, eo, none⟩) 1 e3) ∧ X.cell? ⟨eb, eo, none⟩ = some (bitv y)) (first | with_reducible assumption | exact ⟨d0, d1, d2, d3⟩ | with_reducible exact ⟨f0, f1, f2, f3⟩ | fail) (first | (go_at_call 70; (with_reducible refine (hO _ _).mono ?_); rintro e w' ⟨rfl, rfl⟩) | (go_at_call 71; (with_reducible refine (hP _).mono ?_); rintro e w' ⟨rfl, rfl⟩) | (go_at_call 116; (with_reducible refine (HP.out _ hown1d HZ.out).mono ?_); rintro e w' ⟨A2, c2, rfl, hk1, hk2, hk3, hk4⟩; have f0 := grown_cell hk3 d0 HN.out.1; have f1 := grown_cell hk3 d1 HN.out.2.1; have f2 := grown_cell hk3 d2 HN.out.2.2.1; have f3 := grown_cell hk3 d3 HN.out.2.2.2) | fail)
  go_wp2_with fail
  go_ret
  exact ⟨A2, c2, rfl, hk1, HB.out.trans hk2⟩

set_option maxRecDepth 100000 in
set_option maxHeartbeats 400000 in
theorem siBDrop (b0 : Nat) (W : World) (c0 : W.cell? ⟨b0, 0, none⟩ = some (.func (.func 70) #[] #[])) (q : Nat) {S : Nat → Prop} (a : Ask) (h k : Option Addr × Nat × Nat) (x : AskAt W q S a h k) :
    Calls Tryz.prog 119 #[.pointer (some ⟨q, 0, none⟩), .pointer (some ⟨b0, 0, none⟩)] W fun e w' => (∃ v, e = .returned v) ∧ ∃ h' k', AskAt w' q S { a with bits := [] } h' k' ∧ But [q] W w' := by
  have hO := bitsOf_ok.ca
  have hc := x.cell (i := 5) (v := .slice k.1 k.2.1 k.2.2) rfl
  have hf := x.free 5
  have HS := qh (x.setB [] none 0 0 rfl (zq _) (Nat.zero_le _) (Lies.nil _ _) (fun _ _ _ e => by cases e))
  have HB := qh (But.one W q 5 (.slice none 0 0))
  clear x
  go_enter Tryz.func119, Tryz.ntmps119
  go_wp2_with (go_at_call 70; refine (hO _ _).mono ?_; rintro e w' ⟨rfl, rfl⟩)
  refine bodyPost_end (results_none rfl _ _ _) rfl ?_
  exact ⟨⟨_, rfl⟩, _, _, HS.out, HB.out⟩

theorem siBSet {w1 : World} {q : Nat} {S : Nat → Prop} {a : Ask} {h k : Option Addr × Nat × Nat} (x : AskAt w1 q S a h k) (y : Bool) : AskAt ((w1.setCell ⟨q, 5, none⟩ (.slice (some ⟨w1.heap.size, 0, none⟩) 1 1)).alloc (.cells #[bitv y] 4)) q S { a with bits := [y] } h (some ⟨w1.heap.size, 0, none⟩, 1, 1) ∧ But [q] w1 ((w1.setCell ⟨q, 5, none⟩ (.slice (some ⟨w1.heap.size, 0, none⟩) 1 1)).alloc (.cells #[bitv y] 4)) := by
  have hlt := x.lt
  rw [← alloc_set _ _ _ _ _ hlt]
  refine ⟨?_, (But.of_below ((Below.refl _ w1).alloc (zq _) _) (zq _) [q]).trans (But.one _ q 5 _)⟩
  refine (x.below ((Below.refl _ w1).alloc (zq _) _)).setB [y] (some ⟨w1.heap.size, 0, none⟩) 1 1 rfl (zq _) (by unfold maxLen; omega) (lies_new w1 _ _ _ rfl) ?_
  rintro b o s e _
  cases e
  exact fun hs => absurd (x.sl _ hs) (by omega)

set_option maxRecDepth 100000 in
set_option maxHeartbeats 400000 in
theorem siBRead (b0 b1 : Nat) (w0 W : World) (c0 : W.cell? ⟨b0, 0, none⟩ = some (.func (.func 70) #[] #[])) (c1 : W.cell? ⟨b1, 0, none⟩ = some (.func (.func 72) #[] #[])) (hw : Below w0.heap.size w0 W) (A : Option Addr) (n c : Nat) (b : List UInt8) (hn : b.length = n) (hnc : n ≤ c) (hcm : c ≤ maxLen) (hm : n ≤ 10000) (hb : Lies u8v w0 A b) (q : Nat) {S : Nat → Prop} (a : Ask) (h k : Option Addr × Nat × Nat) (x : AskAt W q S a h k)
    (may : Bool) (y y0 : Bool) (hg0 : ∀ W, ∃ m0, Calls Tryz.prog 72 #[.int .i64 0] W fun e w' => e = .returned (.tuple #[bitv y0, .bool m0]) ∧ w' = W)
    (hg : ∀ W, Calls Tryz.prog 72 #[.int .i64 ((cutN b 2).toNat : Int)] W fun e w' => e = .returned (.tuple #[bitv y, .bool may]) ∧ w' = W)
    (hr : PK.read b a .bit = if n < 2 then none else if may then some (b.drop 2, { a with bits := [y] }) else none) :
    Calls Tryz.prog 117 #[.slice A n c, .pointer (some ⟨q, 0, none⟩), .pointer (some ⟨b1, 0, none⟩), .pointer (some ⟨b0, 0, none⟩)] W (ReadPost w0 W q S .bit b a) := by
  have hO := bitsOf_ok.ca
  have hC := cut6_any A n c 2 (.inr rfl) b hn hnc hcm (by omega) W (hb.below hw (zq _))
  by_cases hlt : n < 2
  · have HC : Hid (Calls Tryz.prog 118 #[.slice A n c, .int .i64 2] W fun e w' => e = .returned (.tuple #[.int .i64 0, .slice none 0 0, .bool false]) ∧ Below W.heap.size W w') := qh (hC.mono fun e w' hh => by
      unfold CutPost at hh
      rw [if_pos hlt] at hh
      exact ⟨hh.2, hh.1⟩)
    have HR : Hid (PK.read b a .bit = none) := qh (by rw [hr, if_pos hlt])
    clear hC hn hg hr
    go_enter Tryz.func117, Tryz.ntmps117
    go_wp2_with fail
    refine HC.out.mono ?_
    rintro e w1 ⟨rfl, hb1⟩
    have x1 := x.below hb1
    have d0 := (hb1.cell (p := ⟨b0, 0, none⟩) (World.block_lt_of_cell? _ _ c0)).trans c0
    have d1 := (hb1.cell (p := ⟨b1, 0, none⟩) (World.block_lt_of_cell? _ _ c1)).trans c1
    have hc := x1.cell (i := 5) (v := .slice k.1 k.2.1 k.2.2) rfl
    have hf := x1.free 5
    have hql := x1.lt
    have HS := qh (siBSet x1 y0)
    have HB := qh (But.of_below hb1 (zq _) [q])
    obtain ⟨m0, hg1⟩ := hg0 w1
    clear c0 c1 x x1 hb1
    go_wp2_with (first | (go_at_call 70; refine (hO _ _).mono ?_; rintro e w' ⟨rfl, rfl⟩) | (go_at_call 72; refine hg1.mono ?_; rintro e w' ⟨rfl, rfl⟩) | fail)
    go_ret2
    exact ReadPost.no _ _ _ HR.out HS.out.1 (HB.out.trans HS.out.2)
  · have HC : Hid (Calls Tryz.prog 118 #[.slice A n c, .int .i64 2] W fun e w' => (∃ A' m c', e = .returned (.tuple #[.int .i64 ((cutN b 2).toNat : Int), .slice A' m c', .bool true]) ∧ (b.drop 2).length = m ∧ m ≤ c' ∧ c' ≤ maxLen ∧ Lies u8v w0 A' (b.drop 2)) ∧ Below W.heap.size W w') := qh (hC.mono fun e w' hh => by
      unfold CutPost at hh
      rw [if_neg hlt] at hh
      obtain ⟨h1, A', m, c', h2, h3, h4, h5, h6⟩ := hh
      exact ⟨⟨A', m, c', h2, h3, h4, h5, h6 _ hb⟩, h1⟩)
    rw [if_neg hlt] at hr
    have HR := qh hr
    generalize hV : cutN b 2 = V at *
    clear hC hn hr hg0 hV hb
    cases may
    all_goals (
      go_enter Tryz.func117, Tryz.ntmps117
      go_wp2_with fail
      refine HC.out.mono ?_
      rintro e w1 ⟨⟨A', m, c', rfl, k1, k2, k3, k4⟩, hb1⟩
      have x1 := x.below hb1
      have d0 := (hb1.cell (p := ⟨b0, 0, none⟩) (World.block_lt_of_cell? _ _ c0)).trans c0
      have d1 := (hb1.cell (p := ⟨b1, 0, none⟩) (World.block_lt_of_cell? _ _ c1)).trans c1
      have hc := x1.cell (i := 5) (v := .slice k.1 k.2.1 k.2.2) rfl
      have hf := x1.free 5
      have hql := x1.lt
      have HS := qh (siBSet x1 y)
      have HB := qh (But.of_below hb1 (zq _) [q])
      have hg1 := hg w1
      clear c0 c1 x x1 hb1
      go_wp2_with (first | (go_at_call 70; refine (hO _ _).mono ?_; rintro e w' ⟨rfl, rfl⟩) | (go_at_call 72; refine hg1.mono ?_; rintro e w' ⟨rfl, rfl⟩) | fail)
      go_ret2
      first
      | exact ReadPost.no _ _ _ (by rw [HR.out]; rfl) HS.out.1 (HB.out.trans HS.out.2)
      | exact ReadPost.yes (by rw [HR.out]; rfl) HS.out.1 (HB.out.trans HS.out.2) k1 k2 k3 k4)

set_option maxRecDepth 100000 in
set_option maxHeartbeats 400000 in
theorem siWFits (b0 : Nat) (W : World) (c0 : W.cell? ⟨b0, 0, none⟩ = some (.func (.func 75) #[] #[])) (a : Ask) (h k : Option Addr × Nat × Nat) (ha : AskIn W a h k) :
    Calls Tryz.prog 120 #[askV a h k, .pointer (some ⟨b0, 0, none⟩)] W fun e w' => e = .returned (.bool (a.words.length == 1)) ∧ Below W.heap.size W w' := by
  have hO := wordsOf_ok.ca
  have hc := box_cell W (askCells a h k) 40 4 (.slice h.1 h.2.1 h.2.2) rfl
  have l0 := World.block_lt_of_cell? _ _ c0
  have HN := qh ha.hn
  unfold askCells at hc
  rw [askV_eq]
  obtain ⟨e1, e2, e3⟩ := h
  dsimp only at *
  clear ha
  by_cases g : e2 = 1
  · subst g
    go_enter Tryz.func120, Tryz.ntmps120
    go_wp2_with (go_at_call 75; refine (hO _ _).mono ?_; rintro e w' ⟨rfl, rfl⟩)
    go_ret
    exact ⟨by rw [HN.out]; rfl, (Below.refl _ _).alloc (zq _) _⟩
  · have g' : ((e2 : Int) == 1) = false := by rw [beq_eq_false_iff_ne]; omega
    go_enter Tryz.func120, Tryz.ntmps120
    go_wp2_with (go_at_call 75; refine (hO _ _).mono ?_; rintro e w' ⟨rfl, rfl⟩)
    go_ret
    exact ⟨by rw [HN.out, beq_eq_false_iff_ne.2 g]; first | rfl | simp [g'], (Below.refl _ _).alloc (zq _) _⟩

set_option maxRecDepth 100000 in
set_option maxHeartbeats 400000 in
theorem siWLay (b0 b1 : Nat) (Wa W : World) (c0 : W.cell? ⟨b0, 0, none⟩ = some (.func (.func 75) #[] #[])) (c1 : W.cell? ⟨b1, 0, none⟩ = some (.func (.func 76) #[] #[])) (a : Ask) (h k : Option Addr × Nat × Nat) (hWa : Below Wa.heap.size Wa W) (ha : AskIn Wa a h k) (y : UInt16) (hy : a.words = [y])
    (B : Nat) (v : Value) (n : Nat) (xs : List UInt8) (hown : W.ownsRow B 5 1 v n (xs.map u8v)) (hB : B ≤ W.heap.size) (hWB : Wa.heap.size ≤ B) (hB0 : b0 < B) (hB1 : b1 < B) (hn : n ≤ 20000) :
    Calls Tryz.prog 121 #[v, askV a h k, .pointer (some ⟨b1, 0, none⟩), .pointer (some ⟨b0, 0, none⟩)] W fun e w' => ∃ A c, e = .returned (.slice A (n + 2) c) ∧ w'.ownsRow B 5 1 (.slice A (n + 2) c) (n + 2) ((xs ++ low y 2).map u8v) ∧ Below B W w' := by
  have h1 : h.2.1 = 1 := by rw [← ha.hn, hy]; rfl
  obtain ⟨eb, eo, eA, hel0⟩ := ha.hl 0 (by rw [hy]; simp)
  obtain ⟨e1, e2, e3⟩ := h
  obtain rfl : e2 = 1 := h1
  obtain rfl : e1 = some ⟨eb, eo, none⟩ := eA
  have hO := wordsOf_ok.ca
  have hP := fun W => putWord_any y W
  have hc := box_cell W #[.int .i64 a.code, .int .i64 a.addr, .int .i64 a.count, .int .i64 a.to, .slice (some ⟨eb, eo, none⟩) 1 e3, .slice k.1 k.2.1 k.2.2, u16v a.and_, u16v a.or_] 40 4 (.slice (some ⟨eb, eo, none⟩) 1 e3) rfl
  have hel : W.cell? ⟨eb, eo, none⟩ = some (u16v y) := by
    have := (hWa.cell (p := ⟨eb, eo + 0, none⟩) (World.block_lt_of_cell? _ _ hel0)).trans hel0
    simpa [hy] using this
  have hebl : eb < Wa.heap.size := World.block_lt_of_cell? _ _ hel0
  have l0 := World.block_lt_of_cell? _ _ c0
  have l1 := World.block_lt_of_cell? _ _ c1
  have l2 : eb < W.heap.size := World.block_lt_of_cell? _ _ hel
  have hb1 : Below W.heap.size W (W.alloc (.cells #[.int .i64 a.code, .int .i64 a.addr, .int .i64 a.count, .int .i64 a.to, .slice (some ⟨eb, eo, none⟩) 1 e3, .slice k.1 k.2.1 k.2.2, u16v a.and_, u16v a.or_] 40)) := (Below.refl _ _).alloc (zq _) _
  have d0 : (W.alloc (.cells #[.int .i64 a.code, .int .i64 a.addr, .int .i64 a.count, .int .i64 a.to, .slice (some ⟨eb, eo, none⟩) 1 e3, .slice k.1 k.2.1 k.2.2, u16v a.and_, u16v a.or_] 40)).drew.cell? ⟨b0, 0, none⟩ = some (.func (.func 75) #[] #[]) := (hb1.cell (p := ⟨b0, 0, none⟩) l0).trans c0
  have d1 : (W.alloc (.cells #[.int .i64 a.code, .int .i64 a.addr, .int .i64 a.count, .int .i64 a.to, .slice (some ⟨eb, eo, none⟩) 1 e3, .slice k.1 k.2.1 k.2.2, u16v a.and_, u16v a.or_] 40)).drew.cell? ⟨b1, 0, none⟩ = some (.func (.func 76) #[] #[]) := (hb1.cell (p := ⟨b1, 0, none⟩) l1).trans c1
  have d2 : (W.alloc (.cells #[.int .i64 a.code, .int .i64 a.addr, .int .i64 a.count, .int .i64 a.to, .slice (some ⟨eb, eo, none⟩) 1 e3, .slice k.1 k.2.1 k.2.2, u16v a.and_, u16v a.or_] 40)).drew.cell? ⟨W.heap.size, 4, none⟩ = some (.slice (some ⟨eb, eo, none⟩) 1 e3) := hc
  have d3 : (W.alloc (.cells #[.int .i64 a.code, .int .i64 a.addr, .int .i64 a.count, .int .i64 a.to, .slice (some ⟨eb, eo, none⟩) 1 e3, .slice k.1 k.2.1 k.2.2, u16v a.and_, u16v a.or_] 40)).drew.cell? ⟨eb, eo, none⟩ = some (u16v y) := (hb1.cell (p := ⟨eb, eo, none⟩) l2).trans hel
  have HN : Hid (v.ownBlock ≠ some b0 ∧ v.ownBlock ≠ some b1 ∧ v.ownBlock ≠ some W.heap.size ∧ v.ownBlock ≠ some eb) := qh ⟨fun e => absurd (hown.lt _ e).1 (by omega), fun e => absurd (hown.lt _ e).1 (by omega), fun e => absurd (hown.lt _ e).2 (by omega), fun e => absurd (hown.lt _ e).1 (by omega)⟩
  obtain ⟨V, hV⟩ : ∃ V, y = V := ⟨_, rfl⟩
  skip
  subst hV
  have hV := 0
  have HP : Hid (∀ X : World, X.ownsRow B 5 1 v n (xs.map u8v) → B ≤ X.heap.size → Calls Tryz.prog 116 #[v, .int .i64 (y.toNat : Int), .int .i64 2] X fun e w' => ∃ A c, e = .returned (.slice A (n + 2) c) ∧ w'.ownsRow B 5 1 (.slice A (n + 2) c) (n + 2) ((xs ++ low y 2).map u8v) ∧ Below B X w' ∧ X.grownBy w' v.ownBlock ∧ (∀ g, (Value.slice A (n + 2) c).ownBlock = some g → v.ownBlock = some g ∨ X.heap.size ≤ g)) := qh (fun X ho hz => put6_any y 2 (.inr rfl) B v n xs X ho hz (by omega))
  have hown1d : (W.alloc (.cells #[.int .i64 a.code, .int .i64 a.addr, .int .i64 a.count, .int .i64 a.to, .slice (some ⟨eb, eo, none⟩) 1 e3, .slice k.1 k.2.1 k.2.2, u16v a.and_, u16v a.or_] 40)).drew.ownsRow B 5 1 v n (xs.map u8v) := hown.alloc _
  have HZ : Hid (B ≤ (W.alloc (.cells #[.int .i64 a.code, .int .i64 a.addr, .int .i64 a.count, .int .i64 a.to, .slice (some ⟨eb, eo, none⟩) 1 e3, .slice k.1 k.2.1 k.2.2, u16v a.and_, u16v a.or_] 40)).drew.heap.size) := qh (Nat.le_trans hB hb1.size)
  have HB : Hid (Below B W (W.alloc (.cells #[.int .i64 a.code, .int .i64 a.addr, .int .i64 a.count, .int .i64 a.to, .slice (some ⟨eb, eo, none⟩) 1 e3, .slice k.1 k.2.1 k.2.2, u16v a.and_, u16v a.or_] 40)).drew) := qh (drewN_below (hb1.mono hB) 1)
  clear hown hb1 hc hel hel0 c0 c1 hV
  clear ha hWa hy
  rw [askV_eq]
  dsimp only
  go_enter Tryz.func121, Tryz.ntmps121
  go_wp2_with fail
  go_region_held3 (fun X => X.cell? ⟨b0, 0, none⟩ = some (.func (.func 75) #[] #[]) ∧ X.cell? ⟨b1, 0, none⟩ = some (.func (.func 76) #[] #[]) ∧ X.cell? ⟨W.heap.size, 4, none⟩ = some (.slice (some ⟨eb, eo, none⟩) 1 e3) ∧ X.cell? ⟨eb, eo, none⟩ = some (u16v y)) (first | with_reducible assumption | exact ⟨d0, d1, d2, d3⟩ | with_reducible exact ⟨f0, f1, f2, f3⟩ | fail) (first | (go_at_call 75; (with_reducible refine (hO _ _).mono ?_); rintro e w' ⟨rfl, rfl⟩) | (go_at_call 76; (with_reducible refine (hP _).mono ?_); rintro e w' ⟨rfl, rfl⟩) | (go_at_call 116; (with_reducible refine (HP.out _ hown1d HZ.out).mono ?_); rintro e w' ⟨A2, c2, rfl, hk1, hk2, hk3, hk4⟩; have f0 := grown_cell hk3 d0 HN.out.1; have f1 := grown_cell hk3 d1 HN.out.2.1; have f2 := grown_cell hk3 d2 HN.out.2.2.1; have f3 := grown_cell hk3 d3 HN.out.2.2.2) | fail)
  go_wp2_with fail
  go_ret
  exact ⟨A2, c2, rfl, hk1, HB.out.trans hk2⟩

set_option maxRecDepth 100000 in
set_option maxHeartbeats 400000 in
theorem siWDrop (b0 : Nat) (W : World) (c0 : W.cell? ⟨b0, 0, none⟩ = some (.func (.func 75) #[] #[])) (q : Nat) {S : Nat → Prop} (a : Ask) (h k : Option Addr × Nat × Nat) (x : AskAt W q S a h k) :
    Calls Tryz.prog 123 #[.pointer (some ⟨q, 0, none⟩), .pointer (some ⟨b0, 0, none⟩)] W fun e w' => (∃ v, e = .returned v) ∧ ∃ h' k', AskAt w' q S { a with words := [] } h' k' ∧ But [q] W w' := by
  have hO := wordsOf_ok.ca
  have hc := x.cell (i := 4) (v := .slice h.1 h.2.1 h.2.2) rfl
  have hf := x.free 4
  have HS := qh (x.setW [] none 0 0 rfl (zq _) (Nat.zero_le _) (Lies.nil _ _) (fun _ _ _ e => by cases e))
  have HB := qh (But.one W q 4 (.slice none 0 0))
  clear x
  go_enter Tryz.func123, Tryz.ntmps123
  go_wp2_with (go_at_call 75; refine (hO _ _).mono ?_; rintro e w' ⟨rfl, rfl⟩)
  refine bodyPost_end (results_none rfl _ _ _) rfl ?_
  exact ⟨⟨_, rfl⟩, _, _, HS.out, HB.out⟩

theorem siWSet {w1 : World} {q : Nat} {S : Nat → Prop} {a : Ask} {h k : Option Addr × Nat × Nat} (x : AskAt w1 q S a h k) (y : UInt16) : AskAt ((w1.setCell ⟨q, 4, none⟩ (.slice (some ⟨w1.heap.size, 0, none⟩) 1 1)).alloc (.cells #[u16v y] 38)) q S { a with words := [y] } (some ⟨w1.heap.size, 0, none⟩, 1, 1) k ∧ But [q] w1 ((w1.setCell ⟨q, 4, none⟩ (.slice (some ⟨w1.heap.size, 0, none⟩) 1 1)).alloc (.cells #[u16v y] 38)) := by
  have hlt := x.lt
  rw [← alloc_set _ _ _ _ _ hlt]
  refine ⟨?_, (But.of_below ((Below.refl _ w1).alloc (zq _) _) (zq _) [q]).trans (But.one _ q 4 _)⟩
  refine (x.below ((Below.refl _ w1).alloc (zq _) _)).setW [y] (some ⟨w1.heap.size, 0, none⟩) 1 1 rfl (zq _) (by unfold maxLen; omega) (lies_new w1 _ _ _ rfl) ?_
  rintro b o s e _
  cases e
  exact fun hs => absurd (x.sl _ hs) (by omega)

set_option maxRecDepth 100000 in
set_option maxHeartbeats 400000 in
theorem siWRead (b0 b1 : Nat) (w0 W : World) (c0 : W.cell? ⟨b0, 0, none⟩ = some (.func (.func 75) #[] #[])) (c1 : W.cell? ⟨b1, 0, none⟩ = some (.func (.func 77) #[] #[])) (hw : Below w0.heap.size w0 W) (A : Option Addr) (n c : Nat) (b : List UInt8) (hn : b.length = n) (hnc : n ≤ c) (hcm : c ≤ maxLen) (hm : n ≤ 10000) (hb : Lies u8v w0 A b) (q : Nat) {S : Nat → Prop} (a : Ask) (h k : Option Addr × Nat × Nat) (x : AskAt W q S a h k)
    (may : Bool) (y y0 : UInt16) (hg0 : ∀ W, ∃ m0, Calls Tryz.prog 77 #[.int .i64 0] W fun e w' => e = .returned (.tuple #[u16v y0, .bool m0]) ∧ w' = W)
    (hg : ∀ W, Calls Tryz.prog 77 #[.int .i64 ((cutN b 2).toNat : Int)] W fun e w' => e = .returned (.tuple #[u16v y, .bool may]) ∧ w' = W)
    (hr : PK.read b a .word = if n < 2 then none else if may then some (b.drop 2, { a with words := [y] }) else none) :
    Calls Tryz.prog 122 #[.slice A n c, .pointer (some ⟨q, 0, none⟩), .pointer (some ⟨b1, 0, none⟩), .pointer (some ⟨b0, 0, none⟩)] W (ReadPost w0 W q S .word b a) := by
  have hO := wordsOf_ok.ca
  have hC := cut6_any A n c 2 (.inr rfl) b hn hnc hcm (by omega) W (hb.below hw (zq _))
  by_cases hlt : n < 2
  · have HC : Hid (Calls Tryz.prog 118 #[.slice A n c, .int .i64 2] W fun e w' => e = .returned (.tuple #[.int .i64 0, .slice none 0 0, .bool false]) ∧ Below W.heap.size W w') := qh (hC.mono fun e w' hh => by
      unfold CutPost at hh
      rw [if_pos hlt] at hh
      exact ⟨hh.2, hh.1⟩)
    have HR : Hid (PK.read b a .word = none) := qh (by rw [hr, if_pos hlt])
    clear hC hn hg hr
    go_enter Tryz.func122, Tryz.ntmps122
    go_wp2_with fail
    refine HC.out.mono ?_
    rintro e w1 ⟨rfl, hb1⟩
    have x1 := x.below hb1
    have d0 := (hb1.cell (p := ⟨b0, 0, none⟩) (World.block_lt_of_cell? _ _ c0)).trans c0
    have d1 := (hb1.cell (p := ⟨b1, 0, none⟩) (World.block_lt_of_cell? _ _ c1)).trans c1
    have hc := x1.cell (i := 4) (v := .slice h.1 h.2.1 h.2.2) rfl
    have hf := x1.free 4
    have hql := x1.lt
    have HS := qh (siWSet x1 y0)
    have HB := qh (But.of_below hb1 (zq _) [q])
    obtain ⟨m0, hg1⟩ := hg0 w1
    clear c0 c1 x x1 hb1
    go_wp2_with (first | (go_at_call 75; refine (hO _ _).mono ?_; rintro e w' ⟨rfl, rfl⟩) | (go_at_call 77; refine hg1.mono ?_; rintro e w' ⟨rfl, rfl⟩) | fail)
    go_ret2
    exact ReadPost.no _ _ _ HR.out HS.out.1 (HB.out.trans HS.out.2)
  · have HC : Hid (Calls Tryz.prog 118 #[.slice A n c, .int .i64 2] W fun e w' => (∃ A' m c', e = .returned (.tuple #[.int .i64 ((cutN b 2).toNat : Int), .slice A' m c', .bool true]) ∧ (b.drop 2).length = m ∧ m ≤ c' ∧ c' ≤ maxLen ∧ Lies u8v w0 A' (b.drop 2)) ∧ Below W.heap.size W w') := qh (hC.mono fun e w' hh => by
      unfold CutPost at hh
      rw [if_neg hlt] at hh
      obtain ⟨h1, A', m, c', h2, h3, h4, h5, h6⟩ := hh
      exact ⟨⟨A', m, c', h2, h3, h4, h5, h6 _ hb⟩, h1⟩)
    rw [if_neg hlt] at hr
    have HR := qh hr
    generalize hV : cutN b 2 = V at *
    clear hC hn hr hg0 hV hb
    cases may
    all_goals (
      go_enter Tryz.func122, Tryz.ntmps122
      go_wp2_with fail
      refine HC.out.mono ?_
      rintro e w1 ⟨⟨A', m, c', rfl, k1, k2, k3, k4⟩, hb1⟩
      have x1 := x.below hb1
      have d0 := (hb1.cell (p := ⟨b0, 0, none⟩) (World.block_lt_of_cell? _ _ c0)).trans c0
      have d1 := (hb1.cell (p := ⟨b1, 0, none⟩) (World.block_lt_of_cell? _ _ c1)).trans c1
      have hc := x1.cell (i := 4) (v := .slice h.1 h.2.1 h.2.2) rfl
      have hf := x1.free 4
      have hql := x1.lt
      have HS := qh (siWSet x1 y)
      have HB := qh (But.of_below hb1 (zq _) [q])
      have hg1 := hg w1
      clear c0 c1 x x1 hb1
      go_wp2_with (first | (go_at_call 75; refine (hO _ _).mono ?_; rintro e w' ⟨rfl, rfl⟩) | (go_at_call 77; refine hg1.mono ?_; rintro e w' ⟨rfl, rfl⟩) | fail)
      go_ret2
      first
      | exact ReadPost.no _ _ _ (by rw [HR.out]; rfl) HS.out.1 (HB.out.trans HS.out.2)
      | exact ReadPost.yes (by rw [HR.out]; rfl) HS.out.1 (HB.out.trans HS.out.2) k1 k2 k3 k4)
end Go.Proofs.YtlgmjnjhdamknaaGreat
