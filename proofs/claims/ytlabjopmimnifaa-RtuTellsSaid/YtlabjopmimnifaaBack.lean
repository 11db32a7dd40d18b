/-
  The law RtuBack, walked: it answers true, and nothing that was there is touched.
-/
import Derived.Test.YtlabjopmimnifaaAwake
namespace Go.Proofs.Ytlabjopmimnifaa
open Go.RowKit

theorem frame_later {w w' : World} {g : Nat} {a b : Value} (h : w.cell? ⟨g, 0, none⟩ = some a ∧ w.cell? ⟨g, 1, none⟩ = some b) (hb : Below w.heap.size w w') : w'.cell? ⟨g, 0, none⟩ = some a ∧ w'.cell? ⟨g, 1, none⟩ = some b :=
  ⟨(hb.cell (p := ⟨g, 0, none⟩) (World.block_lt_of_cell? w _ h.1)).trans h.1, (hb.cell (p := ⟨g, 1, none⟩) (World.block_lt_of_cell? w _ h.2)).trans h.2⟩
theorem frame_new (w : World) (a b : Value) (t : TypeId) : (w.alloc (.cells #[a, b] t)).cell? ⟨w.heap.size, 0, none⟩ = some a ∧ (w.alloc (.cells #[a, b] t)).cell? ⟨w.heap.size, 1, none⟩ = some b :=
  row_frame (Below.refl _ _)

set_option maxRecDepth 100000 in
set_option maxHeartbeats 1000000 in
theorem back_small (u : UInt8) (A : Option Addr) (n c : Nat) (p : List UInt8) (hn : p.length = n) (hm : n ≤ 400) (B : Option Addr) (m d : Nat) (b : List UInt8) (hn' : b.length = m) (hmd : m ≤ d) (hm' : m ≤ 400) (w : World) (ha : Lies u8v w A p) (hb : Lies u8v w B b) :
    Calls Try.prog 4 #[.agg #[u8v u, .slice A n c], .slice B m d] w fun e w' => e = .returned (.bool true) ∧ Below w.heap.size w w' := by
  have HN := Lib.hid hn
  have HM := Lib.hid hn'
  clear hn hn'
  have g1 : (n : Int) ≤ 400 := by omega
  have g2 : (m : Int) ≤ 400 := by omega
  go_enter Try.func4, Try.ntmps4
  go_wp2_with fail
  have hbe0 : Below w.heap.size w (w.alloc (.cells #[u8v u, .slice A n c] 24)) := (Below.refl _ _).alloc (Nat.le_refl _) _
  refine (awake_any _).mono ?_
  rintro e w1 ⟨rfl, hbe1'⟩
  have hx1 := frame_later (frame_new w (u8v u) (.slice A n c) 24) hbe1'
  have hbe1 := hbe0.trans (hbe1'.mono (by simp))
  have ha1 := ha.below hbe1 (Nat.le_refl _)
  have hb1 := hb.below hbe1 (Nat.le_refl _)
  have hz1 := hbe1.size
  have hxx := hx1.1
  have hxy := hx1.2
  clear ha hb hbe0 hbe1'
  go_wp2_with fail
  refine (bytes3_any u A n c p HN.out (by omega) _ ha1).mono ?_
  rintro e w2 ⟨A2, n2, c2, rfl, hn2, hown2, hbe2'⟩
  have hbe2 := hbe1.trans (hbe2'.mono hz1)
  have ha2 := ha1.below hbe2' (Nat.le_refl _)
  have hb2 := hb1.below hbe2' (Nat.le_refl _)
  have hx2 := frame_later hx1 hbe2'
  have hz2 := hbe2.size
  clear ha1 hb1 hbe1 hx1 hz1 hxx hxy hbe2'
  by_cases hg : Rtu.codeP p = 0
  · obtain ⟨h21, h22, _, hy2⟩ := own_at hown2
    have hlen : n2 = n + 3 := by rw [← hn2, Rtu.bytes_length hg, HN.out]
    subst hlen
    have hcb := Rtu.there (u := u) hg
    have hcu := Rtu.there_unit (u := u) hg
    have hcp := Rtu.there_pdu (u := u) hg
    have HN2 := Lib.hid hn2
    rw [hg]
    clear hown2 hn2
    go_wp2_with fail
    refine (read3_any A2 (n + 3) c2 (Rtu.bytes u p) HN2.out h21 (by omega) _ hy2).mono ?_
    rintro e w3 ⟨A3, n3, c3, rfl, hn3, _, _, hy3, hbe3'⟩
    rw [hcb, hcu]
    rw [hcp] at hn3 hy3
    obtain rfl : n3 = n := hn3.symm.trans HN.out
    have hbe3 := hbe2.trans (hbe3'.mono hz2)
    have ha3 := ha2.below hbe3' (Nat.le_refl _)
    have hb3 := hb2.below hbe3' (Nat.le_refl _)
    have hx3 := frame_later hx2 hbe3'
    have hz3 := hbe3.size
    have hxx := hx3.1
    have hxy := hx3.2
    have hlt3 : w.heap.size < w3.heap.size := World.block_lt_of_cell? w3 _ hx3.1
    clear hn3 hcb hcu hcp ha2 hb2 hx2 hy2 hbe3' hbe2 hz2
    go_wp2_with fail
    refine (same3_any u u A A3 n3 n3 c c3 p p HN.out HN.out (by unfold maxLen; omega) _ (ha3.alloc _) (hy3.alloc _)).mono ?_
    rintro e w4 ⟨rfl, hbe4'⟩
    rw [Rtu.same_self]
    have hbe34 : Below w3.heap.size w3 w4 := ((Below.refl _ _).alloc (Nat.le_refl _) _).trans (hbe4'.mono (by simp))
    have hbe4 := hbe3.trans (hbe34.mono hz3)
    have hb4 := hb3.below hbe34 (Nat.le_refl _)
    have hx4 := frame_later hx3 hbe34
    have hz4 := hbe4.size
    have hxx4 := hx4.1
    have hxy4 := hx4.2
    clear hxx hxy ha3 hb3 hx3 hbe3 hz3 hbe4' hbe34 hy3
    have hbW := hb4
    have hbeW := hbe4
    have hzW := hz4
    clear hb4 hbe4 hz4
    go_wp2_with fail
    refine (read3_any B m d b HM.out hmd (by omega) _ hbW).mono ?_
    rintro e w5 ⟨A5, n5, c5, rfl, hn5, hnc5, hc5, hy5, hbe5'⟩
    have hbe5 := hbeW.trans (hbe5'.mono hzW)
    have hb5 := hbW.below hbe5' (Nat.le_refl _)
    have hz5 := hbe5.size
    clear hbW hbe5'
    by_cases hc : Rtu.codeB b = 0
    · have hbc := Rtu.back_code hc
      have hbb := Rtu.back_bytes hc
      have h4 := Rtu.codeB_zero hc
      have h5 := Rtu.codeP_zero hbc
      have HN5 := Lib.hid hn5
      have hn5b : n5 ≤ 253 := by omega
      rw [hc]
      clear hc hn5 h4 h5
      go_wp2_with fail
      refine (bytes3_any (Rtu.unit b) A5 n5 c5 (Rtu.pdu b) HN5.out (by omega) _ (hy5.alloc _)).mono ?_
      rintro e w6 ⟨A6, n6, c6, rfl, hn6, hown6, hbe6'⟩
      rw [hbc]
      rw [hbb] at hn6 hown6
      obtain rfl : n6 = m := hn6.symm.trans HM.out
      obtain ⟨_, _, _, hy6⟩ := own_at hown6
      have hbe56 : Below w5.heap.size w5 w6 := ((Below.refl _ _).alloc (Nat.le_refl _) _).trans (hbe6'.mono (by simp))
      have hbe6 := hbe5.trans (hbe56.mono hz5)
      have hb6 := hb5.below hbe56 (Nat.le_refl _)
      clear hn6 hown6 hbe6' hbe56 hb5 hbc hbb
      go_wp2_with fail
      refine (rsame8_any A6 B n6 n6 c6 d b b HM.out HM.out (by unfold maxLen; omega) _ hy6 hb6).mono ?_
      rintro e w7 ⟨rfl, q7, rfl⟩
      rw [beq_self_eq_true]
      go_wp2_with fail
      go_ret
      exact ⟨rfl, drewN_below hbe6 q7⟩
    · have hpb := Rtu.pdu_bad b hc
      have hcn : (((Rtu.codeB b : Nat) : Int) != 0) = true := by rw [bne_iff_ne]; omega
      rw [hpb] at hn5
      obtain rfl : n5 = 0 := hn5.symm
      clear hc hn5 hpb hy5 hb5
      generalize Rtu.codeB b = q at hcn
      go_wp2_with fail
      go_ret
      exact ⟨rfl, hbe5.alloc hz5 _⟩
  · have hcn : (((Rtu.codeP p : Nat) : Int) == 0) = false := by rw [beq_eq_false_iff_ne]; omega
    clear hg
    generalize Rtu.codeP p = q0 at hcn
    have hbW := hb2
    have hbeW := hbe2
    have hzW := hz2
    clear hb2 hbe2 hz2 hown2
    go_wp2_with fail
    refine (read3_any B m d b HM.out hmd (by omega) _ hbW).mono ?_
    rintro e w5 ⟨A5, n5, c5, rfl, hn5, hnc5, hc5, hy5, hbe5'⟩
    have hbe5 := hbeW.trans (hbe5'.mono hzW)
    have hb5 := hbW.below hbe5' (Nat.le_refl _)
    have hz5 := hbe5.size
    clear hbW hbe5'
    by_cases hc : Rtu.codeB b = 0
    · have hbc := Rtu.back_code hc
      have hbb := Rtu.back_bytes hc
      have h4 := Rtu.codeB_zero hc
      have h5 := Rtu.codeP_zero hbc
      have HN5 := Lib.hid hn5
      have hn5b : n5 ≤ 253 := by omega
      rw [hc]
      clear hc hn5 h4 h5
      go_wp2_with fail
      refine (bytes3_any (Rtu.unit b) A5 n5 c5 (Rtu.pdu b) HN5.out (by omega) _ (hy5.alloc _)).mono ?_
      rintro e w6 ⟨A6, n6, c6, rfl, hn6, hown6, hbe6'⟩
      rw [hbc]
      rw [hbb] at hn6 hown6
      obtain rfl : n6 = m := hn6.symm.trans HM.out
      obtain ⟨_, _, _, hy6⟩ := own_at hown6
      have hbe56 : Below w5.heap.size w5 w6 := ((Below.refl _ _).alloc (Nat.le_refl _) _).trans (hbe6'.mono (by simp))
      have hbe6 := hbe5.trans (hbe56.mono hz5)
      have hb6 := hb5.below hbe56 (Nat.le_refl _)
      clear hn6 hown6 hbe6' hbe56 hb5 hbc hbb
      go_wp2_with fail
      refine (rsame8_any A6 B n6 n6 c6 d b b HM.out HM.out (by unfold maxLen; omega) _ hy6 hb6).mono ?_
      rintro e w7 ⟨rfl, q7, rfl⟩
      rw [beq_self_eq_true]
      go_wp2_with fail
      go_ret
      exact ⟨rfl, drewN_below hbe6 q7⟩
    · have hpb := Rtu.pdu_bad b hc
      have hcn : (((Rtu.codeB b : Nat) : Int) != 0) = true := by rw [bne_iff_ne]; omega
      rw [hpb] at hn5
      obtain rfl : n5 = 0 := hn5.symm
      clear hc hn5 hpb hy5 hb5
      generalize Rtu.codeB b = q at hcn
      go_wp2_with fail
      go_ret
      exact ⟨rfl, hbe5.alloc hz5 _⟩

set_option maxRecDepth 100000 in
set_option maxHeartbeats 400000 in
theorem back_any (u : UInt8) (A : Option Addr) (n c : Nat) (p : List UInt8) (hn : p.length = n) (B : Option Addr) (m d : Nat) (b : List UInt8) (hn' : b.length = m) (hmd : m ≤ d) (w : World) (ha : Lies u8v w A p) (hb : Lies u8v w B b) :
    Calls Try.prog 4 #[.agg #[u8v u, .slice A n c], .slice B m d] w fun e w' => e = .returned (.bool true) ∧ Below w.heap.size w w' := by
  by_cases h1 : n ≤ 400
  · by_cases h2 : m ≤ 400
    · exact back_small u A n c p hn h1 B m d b hn' hmd h2 w ha hb
    · clear hn hn' ha hb
      have g1 : (n : Int) ≤ 400 := by omega
      have g2 : (400 : Int) < (m : Int) := by omega
      go_enter Try.func4, Try.ntmps4
      go_wp2_with fail
      refine (awake_any _).mono ?_
      rintro e w1 ⟨rfl, hbe1'⟩
      have hx1 := frame_later (frame_new w (u8v u) (.slice A n c) 24) hbe1'
      have hxx := hx1.1
      have hxy := hx1.2
      go_wp2_with fail
      go_ret
      exact ⟨rfl, ((Below.refl _ _).alloc (Nat.le_refl _) _).trans (hbe1'.mono (by simp))⟩
  · clear hn hn' ha hb
    have g1 : (400 : Int) < (n : Int) := by omega
    go_enter Try.func4, Try.ntmps4
    go_wp2_with fail
    refine (awake_any _).mono ?_
    rintro e w1 ⟨rfl, hbe1'⟩
    have hx1 := frame_later (frame_new w (u8v u) (.slice A n c) 24) hbe1'
    have hxx := hx1.1
    have hxy := hx1.2
    go_wp2_with fail
    go_ret
    exact ⟨rfl, ((Below.refl _ _).alloc (Nat.le_refl _) _).trans (hbe1'.mono (by simp))⟩
end Go.Proofs.Ytlabjopmimnifaa
