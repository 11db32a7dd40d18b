
/- A part of the proof of the law MasterDoes. -/
import Derived.Test.YtlgmjnjhdamknaaGreatMem
import Derived.Test.YtlgmjnjhdamknaaGreatSi
namespace Go.Proofs.YtlgmjnjhdamknaaGreat
open Go.RowKit Go.Shelf

def WordsInPost (w : World) (l : List UInt8) (N : Nat) (e : Ending) (w' : World) : Prop :=
  ∃ A' n' c', e = .returned (.tuple #[.slice A' n' c', .bool (Word.isWords l && decide ((Word.words l).length = N))]) ∧ (Word.ansWords l).length = n' ∧ n' ≤ c' ∧ c' ≤ maxLen ∧ Lies u16v w' A' (Word.ansWords l) ∧ Below w.heap.size w w' ∧ ∀ b o s, A' = some ⟨b, o, s⟩ → 0 < n' → w.heap.size ≤ b
theorem ansWords_yes {l : List UInt8} (h : Word.isWords l = true) : Word.ansWords l = Word.words l := by unfold Word.ansWords; rw [h]; rfl

set_option maxRecDepth 100000 in
set_option maxHeartbeats 400000 in
theorem wordsIn_any (A : Option Addr) (n c N : Nat) (l : List UInt8) (hn : l.length = n) (hnc : n ≤ c) (hm : n ≤ 20000) (w : World) (hb : Lies u8v w A l) :
    Calls Tryz.prog 134 #[.slice A n c, .int .i64 (N : Int)] w (WordsInPost w l N) := by
  have HC := qh (words_any A n c l hn hnc hm w hb)
  clear hn hb
  have hv : ∀ n', (Word.ansWords l).length = n' → Word.isWords l = true → (Word.words l).length = n' := fun n' h h1 => by rw [← ansWords_yes h1]; exact h
  cases hi : Word.isWords l with
  | false =>
    have HI := qh hi
    clear hi
    go_enter Tryz.func134, Tryz.ntmps134
    go_wp2_with fail
    refine HC.out.mono ?_
    rintro e w1 ⟨A', n', c', rfl, k1, k2, k3, k4, k5, k6⟩
    rw [HI.out]
    go_wp2_with fail
    go_ret2
    exact ⟨A', n', c', by rw [HI.out]; rfl, k1, k2, k3, k4, k5, k6⟩
  | true =>
    have HI := qh hi
    have HV := qh (fun n' h => hv n' h hi)
    clear hi hv
    go_enter Tryz.func134, Tryz.ntmps134
    go_wp2_with fail
    refine HC.out.mono ?_
    rintro e w1 ⟨A', n', c', rfl, k1, k2, k3, k4, k5, k6⟩
    rw [HI.out]
    have HK := qh (HV.out n' k1)
    by_cases g : n' = N
    · subst g
      go_wp2_with fail
      go_ret2
      exact ⟨A', _, c', by rw [HI.out, HK.out]; simp, k1, k2, k3, k4, k5, k6⟩
    · have g' : ((n' : Int) == (N : Int)) = false := by rw [beq_eq_false_iff_ne]; omega
      go_wp2_with fail
      go_ret2
      exact ⟨A', n', c', by rw [HI.out, HK.out]; simp [g], k1, k2, k3, k4, k5, k6⟩

set_option maxRecDepth 100000 in
set_option maxHeartbeats 400000 in
theorem liBFits (b0 b1 m : Nat) (W : World) (c0 : W.cell? ⟨b0, 0, none⟩ = some (.func (.func 70) #[] #[])) (c1 : W.cell? ⟨b1, 0, none⟩ = some (.int .i64 (m : Int))) (a : Ask) (h k : Option Addr × Nat × Nat) (ha : AskIn W a h k) :
    Calls Tryz.prog 124 #[askV a h k, .pointer (some ⟨b0, 0, none⟩), .pointer (some ⟨b1, 0, none⟩)] W fun e w' => e = .returned (.bool (decide (1 ≤ a.bits.length) && decide (a.bits.length ≤ m))) ∧ Below W.heap.size W w' := by
  have hO := bitsOf_ok.ca
  have hc := box_cell W (askCells a h k) 40 5 (.slice k.1 k.2.1 k.2.2) rfl
  have l0 := World.block_lt_of_cell? _ _ c0
  have l1 := World.block_lt_of_cell? _ _ c1
  have HN := qh ha.kn
  unfold askCells at hc
  rw [askV_eq]
  obtain ⟨e1, e2, e3⟩ := k
  dsimp only at *
  clear ha
  by_cases g1 : 1 ≤ e2
  · have g1' : (1 : Int) ≤ (e2 : Int) := by omega
    by_cases g2 : e2 ≤ m
    · have g2' : (e2 : Int) ≤ (m : Int) := by omega
      go_enter Tryz.func124, Tryz.ntmps124
      go_wp2_with (go_at_call 70; refine (hO _ _).mono ?_; rintro e w' ⟨rfl, rfl⟩)
      go_ret
      exact ⟨by rw [HN.out]; simp [g1, g2], (Below.refl _ _).alloc (zq _) _⟩
    · have g2' : ¬ (e2 : Int) ≤ (m : Int) := by omega
      go_enter Tryz.func124, Tryz.ntmps124
      go_wp2_with (go_at_call 70; refine (hO _ _).mono ?_; rintro e w' ⟨rfl, rfl⟩)
      go_ret
      exact ⟨by rw [HN.out]; simp [g1, g2], (Below.refl _ _).alloc (zq _) _⟩
  · have g1' : ¬ (1 : Int) ≤ (e2 : Int) := by omega
    go_enter Tryz.func124, Tryz.ntmps124
    go_wp2_with (go_at_call 70; refine (hO _ _).mono ?_; rintro e w' ⟨rfl, rfl⟩)
    go_ret
    exact ⟨by rw [HN.out, decide_eq_false g1]; rfl, (Below.refl _ _).alloc (zq _) _⟩

set_option maxRecDepth 100000 in
set_option maxHeartbeats 400000 in
theorem liBLay (b0 b1 : Nat) (Wa W : World) (c0 : W.cell? ⟨b0, 0, none⟩ = some (.func (.func 70) #[] #[])) (c1 : W.cell? ⟨b1, 0, none⟩ = some (.func (.func 80) #[] #[])) (a : Ask) (h k : Option Addr × Nat × Nat) (hWa : Below Wa.heap.size Wa W) (ha : AskIn Wa a h k) (hl : a.bits.length ≤ 1968)
    (B : Nat) (v : Value) (n : Nat) (xs : List UInt8) (hown : W.ownsRow B 5 1 v n (xs.map u8v)) (hB : B ≤ W.heap.size) (_hWB : Wa.heap.size ≤ B) (_hB0 : b0 < B) (_hB1 : b1 < B) (hn : n ≤ 20000) :
    Calls Tryz.prog 125 #[v, askV a h k, .pointer (some ⟨b0, 0, none⟩), .pointer (some ⟨b1, 0, none⟩)] W fun e w' => ∃ A m c, e = .returned (.slice A m c) ∧ w'.ownsRow B 5 1 (.slice A m c) m ((xs ++ (low (UInt16.ofNat a.bits.length) 2 ++ (low (UInt16.ofNat ((a.bits.length + 7) / 8)) 1 ++ Word.pack a.bits))).map u8v) ∧ Below B W w' := by
  have HN := qh ha.kn
  have hlies := (ha.kl).below hWa (zq _)
  have hc3 := ha.kc
  rw [HN.out] at hl
  rw [HN.out]
  obtain ⟨e1, e2, e3⟩ := k
  dsimp only at *
  have hO := bitsOf_ok.ca
  have hc := box_cell W #[.int .i64 a.code, .int .i64 a.addr, .int .i64 a.count, .int .i64 a.to, .slice h.1 h.2.1 h.2.2, .slice e1 e2 e3, u16v a.and_, u16v a.or_] 40 5 (.slice e1 e2 e3) rfl
  have l0 := World.block_lt_of_cell? _ _ c0
  have l1 := World.block_lt_of_cell? _ _ c1
  have hb1 : Below W.heap.size W (W.alloc (.cells #[.int .i64 a.code, .int .i64 a.addr, .int .i64 a.count, .int .i64 a.to, .slice h.1 h.2.1 h.2.2, .slice e1 e2 e3, u16v a.and_, u16v a.or_] 40)) := (Below.refl _ _).alloc (zq _) _
  have x1 : ((UInt16.ofNat e2).toNat : Int) = (e2 : Int) := by rw [UInt16.toNat_ofNat']; omega
  have x2 : ((UInt16.ofNat ((e2 + 7) / 8)).toNat : Int) = ((((e2 + 7) / 8) : Nat) : Int) := by rw [UInt16.toNat_ofNat']; omega
  have HP1 : Hid (∀ X : World, X.ownsRow B 5 1 v n (xs.map u8v) → B ≤ X.heap.size → Calls Tryz.prog 116 #[v, .int .i64 (e2 : Int), .int .i64 2] X fun e w' => ∃ A c, e = .returned (.slice A (n + 2) c) ∧ w'.ownsRow B 5 1 (.slice A (n + 2) c) (n + 2) ((xs ++ low (UInt16.ofNat e2) 2).map u8v) ∧ Below B X w' ∧ X.grownBy w' v.ownBlock ∧ (∀ g, (Value.slice A (n + 2) c).ownBlock = some g → v.ownBlock = some g ∨ X.heap.size ≤ g)) := qh (fun X ho hz => by
    have := put6_any (UInt16.ofNat e2) 2 (.inr rfl) B v n xs X ho hz (by omega)
    rw [x1] at this
    exact this)
  have HP2 : Hid (∀ (X : World) (v : Value) (ys : List UInt8), X.ownsRow B 5 1 v (n + 2) (ys.map u8v) → B ≤ X.heap.size → Calls Tryz.prog 116 #[v, .int .i64 ((((e2 + 7) / 8) : Nat) : Int), .int .i64 1] X fun e w' => ∃ A c, e = .returned (.slice A (n + 2 + 1) c) ∧ w'.ownsRow B 5 1 (.slice A (n + 2 + 1) c) (n + 2 + 1) ((ys ++ low (UInt16.ofNat ((e2 + 7) / 8)) 1).map u8v) ∧ Below B X w' ∧ X.grownBy w' v.ownBlock ∧ (∀ g, (Value.slice A (n + 2 + 1) c).ownBlock = some g → v.ownBlock = some g ∨ X.heap.size ≤ g)) := qh (fun X v ys ho hz => by
    have := put6_any (UInt16.ofNat ((e2 + 7) / 8)) 1 (.inl rfl) B v (n + 2) ys X ho hz (by omega)
    rw [x2] at this
    exact this)
  have HPK := qh (pack_any e1 e2 e3 a.bits HN.out (by omega) (by omega) (W.alloc (.cells #[.int .i64 a.code, .int .i64 a.addr, .int .i64 a.count, .int .i64 a.to, .slice h.1 h.2.1 h.2.2, .slice e1 e2 e3, u16v a.and_, u16v a.or_] 40)) (hlies.below hb1 (zq _)))
  have HBL : Hid ((Word.pack a.bits).length = ((e2 + 7) / 8)) := qh (by rw [Word.pack_length, HN.out])
  clear ha hWa x1 x2 hlies
  rw [askV_eq]
  dsimp only
  go_enter Tryz.func125, Tryz.ntmps125
  go_wp2_with (go_at_call 70; refine (hO _ _).mono ?_; rintro e w' ⟨rfl, rfl⟩)
  go_at_call 80
  refine HPK.out.mono ?_
  rintro e w2 ⟨A2, c2, rfl, k1, k2, k3, k4, k5⟩
  have hown2 := own_below (hown.alloc (.cells #[.int .i64 a.code, .int .i64 a.addr, .int .i64 a.count, .int .i64 a.to, .slice h.1 h.2.1 h.2.2, .slice e1 e2 e3, u16v a.and_, u16v a.or_] 40)) k4
  have hz2 : B ≤ w2.heap.size := Nat.le_trans hB (Nat.le_trans hb1.size k4.size)
  have HB2 := qh ((hb1.mono hB).trans (k4.mono (Nat.le_trans hB hb1.size)))
  have hfar : ∀ b o s, A2 = some ⟨b, o, s⟩ → v.ownBlock ≠ some b := fun b o s e e2 => by
    have h1 := k5 b o s e
    have h2 := (hown.lt _ e2).2
    have h3 := hb1.size
    omega
  have hl3 : ∀ w3, w2.grownBy w3 v.ownBlock → Lies u8v w3 A2 (Word.pack a.bits) := fun w3 hg j hj => by
    obtain ⟨b, o, e, hcell⟩ := k3 j hj
    exact ⟨b, o, e, grown_cell hg hcell (hfar _ _ _ e)⟩
  clear hown hc c0 c1 hb1
  go_wp2_with fail
  refine (HP1.out _ hown2 hz2).mono ?_
  rintro e w3 ⟨A3, c3, rfl, g1, g2, g3, g4⟩
  have hz3 := Nat.le_trans hz2 g3.size
  have hl3' := hl3 _ g3
  go_wp2_with fail
  refine (HP2.out _ _ _ g1 hz3).mono ?_
  rintro e w4 ⟨A4, c4, rfl, m1, m2, m3, m4⟩
  have hl4 : Lies u8v w4 A2 (Word.pack a.bits) := fun j hj => by
    obtain ⟨b, o, e, hcell⟩ := hl3' j hj
    obtain ⟨b', o', e', hcell'⟩ := k3 j hj
    obtain ⟨rfl, rfl⟩ : b = b' ∧ o = o' := by rw [e] at e'; simpa using e'
    refine ⟨b, o, e, grown_cell m3 hcell ?_⟩
    intro e6
    rcases g4 _ e6 with h1 | h1
    · exact hfar _ _ _ e' h1
    · have := World.block_lt_of_cell? _ _ hcell'
      dsimp only at this h1
      omega
  have hz4 := Nat.le_trans hz3 m3.size
  go_wp2_with (at_builtin; go_must (refine wpList_append_lies kit8 one8 _ rfl (.tmp 22) (.tmp 23) rfl B _ (n + 2 + 1) _ rfl m1 A2 ((e2 + 7) / 8) c2 (Word.pack a.bits) rfl HBL.out hl4 (by omega) (by unfold maxLen; omega) hz4 ?_; intro A5 c5 w5 p1 p2 p3))
  go_ret
  refine ⟨A5, _, c5, rfl, ?_, HB2.out.trans (g2.trans (m2.trans p3))⟩
  rw [List.append_assoc, List.append_assoc] at p1
  exact p1

set_option maxRecDepth 100000 in
set_option maxHeartbeats 400000 in
theorem liWFits (b0 b1 m : Nat) (W : World) (c0 : W.cell? ⟨b0, 0, none⟩ = some (.func (.func 75) #[] #[])) (c1 : W.cell? ⟨b1, 0, none⟩ = some (.int .i64 (m : Int))) (a : Ask) (h k : Option Addr × Nat × Nat) (ha : AskIn W a h k) :
    Calls Tryz.prog 155 #[askV a h k, .pointer (some ⟨b0, 0, none⟩), .pointer (some ⟨b1, 0, none⟩)] W fun e w' => e = .returned (.bool (decide (1 ≤ a.words.length) && decide (a.words.length ≤ m))) ∧ Below W.heap.size W w' := by
  have hO := wordsOf_ok.ca
  have hc := box_cell W (askCells a h k) 40 4 (.slice h.1 h.2.1 h.2.2) rfl
  have l0 := World.block_lt_of_cell? _ _ c0
  have l1 := World.block_lt_of_cell? _ _ c1
  have HN := qh ha.hn
  unfold askCells at hc
  rw [askV_eq]
  obtain ⟨e1, e2, e3⟩ := h
  dsimp only at *
  clear ha
  by_cases g1 : 1 ≤ e2
  · have g1' : (1 : Int) ≤ (e2 : Int) := by omega
    by_cases g2 : e2 ≤ m
    · have g2' : (e2 : Int) ≤ (m : Int) := by omega
      go_enter Tryz.func155, Tryz.ntmps155
      go_wp2_with (go_at_call 75; refine (hO _ _).mono ?_; rintro e w' ⟨rfl, rfl⟩)
      go_ret
      exact ⟨by rw [HN.out]; simp [g1, g2], (Below.refl _ _).alloc (zq _) _⟩
    · have g2' : ¬ (e2 : Int) ≤ (m : Int) := by omega
      go_enter Tryz.func155, Tryz.ntmps155
      go_wp2_with (go_at_call 75; refine (hO _ _).mono ?_; rintro e w' ⟨rfl, rfl⟩)
      go_ret
      exact ⟨by rw [HN.out]; simp [g1, g2], (Below.refl _ _).alloc (zq _) _⟩
  · have g1' : ¬ (1 : Int) ≤ (e2 : Int) := by omega
    go_enter Tryz.func155, Tryz.ntmps155
    go_wp2_with (go_at_call 75; refine (hO _ _).mono ?_; rintro e w' ⟨rfl, rfl⟩)
    go_ret
    exact ⟨by rw [HN.out, decide_eq_false g1]; rfl, (Below.refl _ _).alloc (zq _) _⟩

set_option maxRecDepth 100000 in
set_option maxHeartbeats 400000 in
theorem liWLay (b0 b1 : Nat) (Wa W : World) (c0 : W.cell? ⟨b0, 0, none⟩ = some (.func (.func 75) #[] #[])) (c1 : W.cell? ⟨b1, 0, none⟩ = some (.func (.func 133) #[] #[])) (a : Ask) (h k : Option Addr × Nat × Nat) (hWa : Below Wa.heap.size Wa W) (ha : AskIn Wa a h k) (hl : a.words.length ≤ 123)
    (B : Nat) (v : Value) (n : Nat) (xs : List UInt8) (hown : W.ownsRow B 5 1 v n (xs.map u8v)) (hB : B ≤ W.heap.size) (_hWB : Wa.heap.size ≤ B) (_hB0 : b0 < B) (_hB1 : b1 < B) (hn : n ≤ 20000) :
    Calls Tryz.prog 156 #[v, askV a h k, .pointer (some ⟨b0, 0, none⟩), .pointer (some ⟨b1, 0, none⟩)] W fun e w' => ∃ A m c, e = .returned (.slice A m c) ∧ w'.ownsRow B 5 1 (.slice A m c) m ((xs ++ (low (UInt16.ofNat a.words.length) 2 ++ (low (UInt16.ofNat (2 * a.words.length)) 1 ++ Word.bytes a.words))).map u8v) ∧ Below B W w' := by
  have HN := qh ha.hn
  have hlies := (ha.hl).below hWa (zq _)
  have hc3 := ha.hc
  rw [HN.out] at hl
  rw [HN.out]
  obtain ⟨e1, e2, e3⟩ := h
  dsimp only at *
  have hO := wordsOf_ok.ca
  have hc := box_cell W #[.int .i64 a.code, .int .i64 a.addr, .int .i64 a.count, .int .i64 a.to, .slice e1 e2 e3, .slice k.1 k.2.1 k.2.2, u16v a.and_, u16v a.or_] 40 4 (.slice e1 e2 e3) rfl
  have l0 := World.block_lt_of_cell? _ _ c0
  have l1 := World.block_lt_of_cell? _ _ c1
  have hb1 : Below W.heap.size W (W.alloc (.cells #[.int .i64 a.code, .int .i64 a.addr, .int .i64 a.count, .int .i64 a.to, .slice e1 e2 e3, .slice k.1 k.2.1 k.2.2, u16v a.and_, u16v a.or_] 40)) := (Below.refl _ _).alloc (zq _) _
  have x1 : ((UInt16.ofNat e2).toNat : Int) = (e2 : Int) := by rw [UInt16.toNat_ofNat']; omega
  have x2 : ((UInt16.ofNat (2 * e2)).toNat : Int) = (((2 * e2) : Nat) : Int) := by rw [UInt16.toNat_ofNat']; omega
  have HP1 : Hid (∀ X : World, X.ownsRow B 5 1 v n (xs.map u8v) → B ≤ X.heap.size → Calls Tryz.prog 116 #[v, .int .i64 (e2 : Int), .int .i64 2] X fun e w' => ∃ A c, e = .returned (.slice A (n + 2) c) ∧ w'.ownsRow B 5 1 (.slice A (n + 2) c) (n + 2) ((xs ++ low (UInt16.ofNat e2) 2).map u8v) ∧ Below B X w' ∧ X.grownBy w' v.ownBlock ∧ (∀ g, (Value.slice A (n + 2) c).ownBlock = some g → v.ownBlock = some g ∨ X.heap.size ≤ g)) := qh (fun X ho hz => by
    have := put6_any (UInt16.ofNat e2) 2 (.inr rfl) B v n xs X ho hz (by omega)
    rw [x1] at this
    exact this)
  have HP2 : Hid (∀ (X : World) (v : Value) (ys : List UInt8), X.ownsRow B 5 1 v (n + 2) (ys.map u8v) → B ≤ X.heap.size → Calls Tryz.prog 116 #[v, .int .i64 (((2 * e2) : Nat) : Int), .int .i64 1] X fun e w' => ∃ A c, e = .returned (.slice A (n + 2 + 1) c) ∧ w'.ownsRow B 5 1 (.slice A (n + 2 + 1) c) (n + 2 + 1) ((ys ++ low (UInt16.ofNat (2 * e2)) 1).map u8v) ∧ Below B X w' ∧ X.grownBy w' v.ownBlock ∧ (∀ g, (Value.slice A (n + 2 + 1) c).ownBlock = some g → v.ownBlock = some g ∨ X.heap.size ≤ g)) := qh (fun X v ys ho hz => by
    have := put6_any (UInt16.ofNat (2 * e2)) 1 (.inl rfl) B v (n + 2) ys X ho hz (by omega)
    rw [x2] at this
    exact this)
  have HPK := qh (bytes_any e1 e2 e3 a.words HN.out (by omega) (W.alloc (.cells #[.int .i64 a.code, .int .i64 a.addr, .int .i64 a.count, .int .i64 a.to, .slice e1 e2 e3, .slice k.1 k.2.1 k.2.2, u16v a.and_, u16v a.or_] 40)) (hlies.below hb1 (zq _)))
  have HBL : Hid ((Word.bytes a.words).length = (2 * e2)) := qh (by rw [Word.bytes_length, HN.out])
  clear ha hWa x1 x2 hlies
  rw [askV_eq]
  dsimp only
  go_enter Tryz.func156, Tryz.ntmps156
  go_wp2_with (go_at_call 75; refine (hO _ _).mono ?_; rintro e w' ⟨rfl, rfl⟩)
  go_at_call 133
  refine HPK.out.mono ?_
  rintro e w2 ⟨A2, c2, rfl, k1, k2, k3, k4, k5⟩
  have hown2 := own_below (hown.alloc (.cells #[.int .i64 a.code, .int .i64 a.addr, .int .i64 a.count, .int .i64 a.to, .slice e1 e2 e3, .slice k.1 k.2.1 k.2.2, u16v a.and_, u16v a.or_] 40)) k4
  have hz2 : B ≤ w2.heap.size := Nat.le_trans hB (Nat.le_trans hb1.size k4.size)
  have HB2 := qh ((hb1.mono hB).trans (k4.mono (Nat.le_trans hB hb1.size)))
  have hfar : ∀ b o s, A2 = some ⟨b, o, s⟩ → v.ownBlock ≠ some b := fun b o s e e2 => by
    have h1 := k5 b o s e
    have h2 := (hown.lt _ e2).2
    have h3 := hb1.size
    omega
  have hl3 : ∀ w3, w2.grownBy w3 v.ownBlock → Lies u8v w3 A2 (Word.bytes a.words) := fun w3 hg j hj => by
    obtain ⟨b, o, e, hcell⟩ := k3 j hj
    exact ⟨b, o, e, grown_cell hg hcell (hfar _ _ _ e)⟩
  clear hown hc c0 c1 hb1
  go_wp2_with fail
  refine (HP1.out _ hown2 hz2).mono ?_
  rintro e w3 ⟨A3, c3, rfl, g1, g2, g3, g4⟩
  have hz3 := Nat.le_trans hz2 g3.size
  have hl3' := hl3 _ g3
  go_wp2_with fail
  refine (HP2.out _ _ _ g1 hz3).mono ?_
  rintro e w4 ⟨A4, c4, rfl, m1, m2, m3, m4⟩
  have hl4 : Lies u8v w4 A2 (Word.bytes a.words) := fun j hj => by
    obtain ⟨b, o, e, hcell⟩ := hl3' j hj
    obtain ⟨b', o', e', hcell'⟩ := k3 j hj
    obtain ⟨rfl, rfl⟩ : b = b' ∧ o = o' := by rw [e] at e'; simpa using e'
    refine ⟨b, o, e, grown_cell m3 hcell ?_⟩
    intro e6
    rcases g4 _ e6 with h1 | h1
    · exact hfar _ _ _ e' h1
    · have := World.block_lt_of_cell? _ _ hcell'
      dsimp only at this h1
      omega
  have hz4 := Nat.le_trans hz3 m3.size
  go_wp2_with (at_builtin; go_must (refine wpList_append_lies kit8 one8 _ rfl (.tmp 22) (.tmp 23) rfl B _ (n + 2 + 1) _ rfl m1 A2 (2 * e2) c2 (Word.bytes a.words) rfl HBL.out hl4 (by omega) (by unfold maxLen; omega) hz4 ?_; intro A5 c5 w5 p1 p2 p3))
  go_ret
  refine ⟨A5, _, c5, rfl, ?_, HB2.out.trans (g2.trans (m2.trans p3))⟩
  rw [List.append_assoc, List.append_assoc] at p1
  exact p1
end Go.Proofs.YtlgmjnjhdamknaaGreat
