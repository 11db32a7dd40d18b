
/-
  The landed ask: the functions that make the parts of codes.
-/
import Derived.Test.YtaembpncoicdpaaPt
namespace Go.Proofs.Ytaembpncoicdpaa
open Go.RowKit Go.Shelf

theorem row_four {w : World} {g : Nat} {a b c d : Value} {t : TypeId} (h : w.heap[g]? = some (.cells #[a, b, c, d] t (0, 0))) :
    w.cell? ⟨g, 0, none⟩ = some a ∧ w.cell? ⟨g, 1, none⟩ = some b ∧ w.cell? ⟨g, 2, none⟩ = some c ∧ w.cell? ⟨g, 3, none⟩ = some d ∧ w.frozen? ⟨g, 0, none⟩ = false ∧ w.frozen? ⟨g, 1, none⟩ = false ∧ w.frozen? ⟨g, 2, none⟩ = false ∧ w.frozen? ⟨g, 3, none⟩ = false := by
  simp [World.cell?, World.frozen?, h]
/-- What lies behind a store of a part into the variable that it is made in. -/
theorem made {w W : World} {g : Nat} {t : TypeId} {a b c d : Value} (h : W.heap[g]? = some (.cells #[a, b, c, d] t (0, 0))) (hb : Below w.heap.size w W) (hg : w.heap.size ≤ g) (x1 x2 x3 x4 : Value) :
    ((((W.setCell ⟨g, 0, none⟩ x1).setCell ⟨g, 1, none⟩ x2).setCell ⟨g, 2, none⟩ x3).setCell ⟨g, 3, none⟩ x4).heap[g]? = some (.cells #[x1, x2, x3, x4] t (0, 0)) ∧
    Since (g + 1) W ((((W.setCell ⟨g, 0, none⟩ x1).setCell ⟨g, 1, none⟩ x2).setCell ⟨g, 2, none⟩ x3).setCell ⟨g, 3, none⟩ x4) ∧
    Below w.heap.size w ((((W.setCell ⟨g, 0, none⟩ x1).setCell ⟨g, 1, none⟩ x2).setCell ⟨g, 2, none⟩ x3).setCell ⟨g, 3, none⟩ x4) := by
  refine ⟨row_set (row_set (row_set (row_set h x1) x2) x3) x4, ⟨by simp [World.setCell], fun j h1 h2 => ?_⟩, (((hb.setCell (p := ⟨g, 0, none⟩) hg x1).setCell (p := ⟨g, 1, none⟩) hg x2).setCell (p := ⟨g, 2, none⟩) hg x3).setCell (p := ⟨g, 3, none⟩) hg x4⟩
  have hne : g ≠ j := by omega
  simp only [World.setCell, Array.getElem?_modify, if_neg hne]

set_option maxRecDepth 100000 in
set_option maxHeartbeats 400000 in
theorem addr_make (w : World) : Calls Try.prog 23 #[] w (PartPost w (.num .addr 2 0 65535)) := by
  have h0 := row_at w #[.nilFunc, .nilFunc, .nilFunc, .nilFunc] 57 w.heap.size rfl
  have hb0 : Below w.heap.size w (w.alloc (.cells #[.nilFunc, .nilFunc, .nilFunc, .nilFunc] 57)) := (Below.refl _ w).alloc (Nat.le_refl _) _
  have HC := Lib.hid (numI_make .addr 53 addrOf_ok 2 0 65535 ⟨.inr rfl, by omega, by omega⟩ (w.alloc (.cells #[.nilFunc, .nilFunc, .nilFunc, .nilFunc] 57)))
  go_enter Try.func23, Try.ntmps23
  go_wp2_with fail
  refine HC.out.mono ?_
  rintro e w2 ⟨vs, rfl, hP, hb2⟩
  have hP0 := hP
  obtain ⟨g1, g2, g3, g4, l1, l2, l3, l4, rfl, _⟩ := hP
  have hs : (w.alloc (.cells #[.nilFunc, .nilFunc, .nilFunc, .nilFunc] 57)).heap.size = w.heap.size + 1 := by simp
  rw [hs] at hP0
  have hr := row_later h0 hb2
  obtain ⟨z0, z1, z2, z3, y0, y1, y2, y3⟩ := row_four hr
  obtain ⟨m1, m2, m3⟩ := made hr (hb0.trans (hb2.mono hb0.size)) (Nat.le_refl _) (.func (.func g1) #[] l1) (.func (.func g2) #[] l2) (.func (.func g3) #[] l3) (.func (.func g4) #[] l4)
  obtain ⟨r0, r1, r2, r3, _⟩ := row_four m1
  have HI := Lib.hid ((hP0.since m2).low (show w.heap.size ≤ w.heap.size + 1 by omega))
  have HM := Lib.hid m3
  clear hP0 m1 m2 m3 hr h0 hb0 hb2 hs
  go_wp2_with fail
  refine bodyPost_ret_by (v := .agg #[.func (.func g1) #[] l1, .func (.func g2) #[] l2, .func (.func g3) #[] l3, .func (.func g4) #[] l4]) (by simp [results, Try.f23, go_sem, r0, r1, r2, r3]) rfl ?_
  exact ⟨_, rfl, HI.out, HM.out⟩

set_option maxRecDepth 100000 in
set_option maxHeartbeats 400000 in
theorem count_make (m : Nat) (hm : m ≤ 65535) (w : World) : Calls Try.prog 24 #[.int .i64 (m : Int)] w (PartPost w (.num .count 2 1 (m : Int))) := by
  have h0 := row_at w #[.nilFunc, .nilFunc, .nilFunc, .nilFunc] 57 w.heap.size rfl
  have hb0 : Below w.heap.size w (w.alloc (.cells #[.nilFunc, .nilFunc, .nilFunc, .nilFunc] 57)) := (Below.refl _ w).alloc (Nat.le_refl _) _
  have HC := Lib.hid (numI_make .count 54 countOf_ok 2 1 (m : Int) ⟨.inr rfl, by omega, by omega⟩ (w.alloc (.cells #[.nilFunc, .nilFunc, .nilFunc, .nilFunc] 57)))
  go_enter Try.func24, Try.ntmps24
  go_wp2_with fail
  refine HC.out.mono ?_
  rintro e w2 ⟨vs, rfl, hP, hb2⟩
  have hP0 := hP
  obtain ⟨g1, g2, g3, g4, l1, l2, l3, l4, rfl, _⟩ := hP
  have hs : (w.alloc (.cells #[.nilFunc, .nilFunc, .nilFunc, .nilFunc] 57)).heap.size = w.heap.size + 1 := by simp
  rw [hs] at hP0
  have hr := row_later h0 hb2
  obtain ⟨z0, z1, z2, z3, y0, y1, y2, y3⟩ := row_four hr
  obtain ⟨m1, m2, m3⟩ := made hr (hb0.trans (hb2.mono hb0.size)) (Nat.le_refl _) (.func (.func g1) #[] l1) (.func (.func g2) #[] l2) (.func (.func g3) #[] l3) (.func (.func g4) #[] l4)
  obtain ⟨r0, r1, r2, r3, _⟩ := row_four m1
  have HI := Lib.hid ((hP0.since m2).low (show w.heap.size ≤ w.heap.size + 1 by omega))
  have HM := Lib.hid m3
  clear hP0 m1 m2 m3 hr h0 hb0 hb2 hs
  go_wp2_with fail
  refine bodyPost_ret_by (v := .agg #[.func (.func g1) #[] l1, .func (.func g2) #[] l2, .func (.func g3) #[] l3, .func (.func g4) #[] l4]) (by simp [results, Try.f24, go_sem, r0, r1, r2, r3]) rfl ?_
  exact ⟨_, rfl, HI.out, HM.out⟩

set_option maxRecDepth 100000 in
set_option maxHeartbeats 400000 in
theorem to_make (w : World) : Calls Try.prog 44 #[] w (PartPost w (.num .to 2 0 65535)) := by
  have h0 := row_at w #[.nilFunc, .nilFunc, .nilFunc, .nilFunc] 57 w.heap.size rfl
  have hb0 : Below w.heap.size w (w.alloc (.cells #[.nilFunc, .nilFunc, .nilFunc, .nilFunc] 57)) := (Below.refl _ w).alloc (Nat.le_refl _) _
  have HC := Lib.hid (numI_make .to 78 toOf_ok 2 0 65535 ⟨.inr rfl, by omega, by omega⟩ (w.alloc (.cells #[.nilFunc, .nilFunc, .nilFunc, .nilFunc] 57)))
  go_enter Try.func44, Try.ntmps44
  go_wp2_with fail
  refine HC.out.mono ?_
  rintro e w2 ⟨vs, rfl, hP, hb2⟩
  have hP0 := hP
  obtain ⟨g1, g2, g3, g4, l1, l2, l3, l4, rfl, _⟩ := hP
  have hs : (w.alloc (.cells #[.nilFunc, .nilFunc, .nilFunc, .nilFunc] 57)).heap.size = w.heap.size + 1 := by simp
  rw [hs] at hP0
  have hr := row_later h0 hb2
  obtain ⟨z0, z1, z2, z3, y0, y1, y2, y3⟩ := row_four hr
  obtain ⟨m1, m2, m3⟩ := made hr (hb0.trans (hb2.mono hb0.size)) (Nat.le_refl _) (.func (.func g1) #[] l1) (.func (.func g2) #[] l2) (.func (.func g3) #[] l3) (.func (.func g4) #[] l4)
  obtain ⟨r0, r1, r2, r3, _⟩ := row_four m1
  have HI := Lib.hid ((hP0.since m2).low (show w.heap.size ≤ w.heap.size + 1 by omega))
  have HM := Lib.hid m3
  clear hP0 m1 m2 m3 hr h0 hb0 hb2 hs
  go_wp2_with fail
  refine bodyPost_ret_by (v := .agg #[.func (.func g1) #[] l1, .func (.func g2) #[] l2, .func (.func g3) #[] l3, .func (.func g4) #[] l4]) (by simp [results, Try.f44, go_sem, r0, r1, r2, r3]) rfl ?_
  exact ⟨_, rfl, HI.out, HM.out⟩

set_option maxRecDepth 100000 in
set_option maxHeartbeats 400000 in
theorem level_make (w : World) : Calls Try.prog 46 #[] w (PartPost w (.num .count 1 1 4)) := by
  have h0 := row_at w #[.nilFunc, .nilFunc, .nilFunc, .nilFunc] 57 w.heap.size rfl
  have hb0 : Below w.heap.size w (w.alloc (.cells #[.nilFunc, .nilFunc, .nilFunc, .nilFunc] 57)) := (Below.refl _ w).alloc (Nat.le_refl _) _
  have HC := Lib.hid (numI_make .count 54 countOf_ok 1 1 4 ⟨.inl rfl, by omega, by omega⟩ (w.alloc (.cells #[.nilFunc, .nilFunc, .nilFunc, .nilFunc] 57)))
  go_enter Try.func46, Try.ntmps46
  go_wp2_with fail
  refine HC.out.mono ?_
  rintro e w2 ⟨vs, rfl, hP, hb2⟩
  have hP0 := hP
  obtain ⟨g1, g2, g3, g4, l1, l2, l3, l4, rfl, _⟩ := hP
  have hs : (w.alloc (.cells #[.nilFunc, .nilFunc, .nilFunc, .nilFunc] 57)).heap.size = w.heap.size + 1 := by simp
  rw [hs] at hP0
  have hr := row_later h0 hb2
  obtain ⟨z0, z1, z2, z3, y0, y1, y2, y3⟩ := row_four hr
  obtain ⟨m1, m2, m3⟩ := made hr (hb0.trans (hb2.mono hb0.size)) (Nat.le_refl _) (.func (.func g1) #[] l1) (.func (.func g2) #[] l2) (.func (.func g3) #[] l3) (.func (.func g4) #[] l4)
  obtain ⟨r0, r1, r2, r3, _⟩ := row_four m1
  have HI := Lib.hid ((hP0.since m2).low (show w.heap.size ≤ w.heap.size + 1 by omega))
  have HM := Lib.hid m3
  clear hP0 m1 m2 m3 hr h0 hb0 hb2 hs
  go_wp2_with fail
  refine bodyPost_ret_by (v := .agg #[.func (.func g1) #[] l1, .func (.func g2) #[] l2, .func (.func g3) #[] l3, .func (.func g4) #[] l4]) (by simp [results, Try.f46, go_sem, r0, r1, r2, r3]) rfl ?_
  exact ⟨_, rfl, HI.out, HM.out⟩

set_option maxRecDepth 100000 in
set_option maxHeartbeats 400000 in
theorem object_make (w : World) : Calls Try.prog 47 #[] w (PartPost w (.num .addr 1 0 255)) := by
  have h0 := row_at w #[.nilFunc, .nilFunc, .nilFunc, .nilFunc] 57 w.heap.size rfl
  have hb0 : Below w.heap.size w (w.alloc (.cells #[.nilFunc, .nilFunc, .nilFunc, .nilFunc] 57)) := (Below.refl _ w).alloc (Nat.le_refl _) _
  have HC := Lib.hid (numI_make .addr 53 addrOf_ok 1 0 255 ⟨.inl rfl, by omega, by omega⟩ (w.alloc (.cells #[.nilFunc, .nilFunc, .nilFunc, .nilFunc] 57)))
  go_enter Try.func47, Try.ntmps47
  go_wp2_with fail
  refine HC.out.mono ?_
  rintro e w2 ⟨vs, rfl, hP, hb2⟩
  have hP0 := hP
  obtain ⟨g1, g2, g3, g4, l1, l2, l3, l4, rfl, _⟩ := hP
  have hs : (w.alloc (.cells #[.nilFunc, .nilFunc, .nilFunc, .nilFunc] 57)).heap.size = w.heap.size + 1 := by simp
  rw [hs] at hP0
  have hr := row_later h0 hb2
  obtain ⟨z0, z1, z2, z3, y0, y1, y2, y3⟩ := row_four hr
  obtain ⟨m1, m2, m3⟩ := made hr (hb0.trans (hb2.mono hb0.size)) (Nat.le_refl _) (.func (.func g1) #[] l1) (.func (.func g2) #[] l2) (.func (.func g3) #[] l3) (.func (.func g4) #[] l4)
  obtain ⟨r0, r1, r2, r3, _⟩ := row_four m1
  have HI := Lib.hid ((hP0.since m2).low (show w.heap.size ≤ w.heap.size + 1 by omega))
  have HM := Lib.hid m3
  clear hP0 m1 m2 m3 hr h0 hb0 hb2 hs
  go_wp2_with fail
  refine bodyPost_ret_by (v := .agg #[.func (.func g1) #[] l1, .func (.func g2) #[] l2, .func (.func g3) #[] l3, .func (.func g4) #[] l4]) (by simp [results, Try.f47, go_sem, r0, r1, r2, r3]) rfl ?_
  exact ⟨_, rfl, HI.out, HM.out⟩

set_option maxRecDepth 100000 in
set_option maxHeartbeats 400000 in
theorem mask_make (f : UF) (gof : Nat) (O : OfOK gof f.ix) (w : World) : Calls Try.prog 40 #[.func (.func gof) #[] #[]] w (PartPost w (.mask f)) := by
  have h0 := row_at w #[.nilFunc, .nilFunc, .nilFunc, .nilFunc] 57 w.heap.size rfl
  have hb0 : Below w.heap.size w (w.alloc (.cells #[.nilFunc, .nilFunc, .nilFunc, .nilFunc] 57)) := (Below.refl _ w).alloc (Nat.le_refl _) _
  have HC := Lib.hid (numU_make f gof O (w.alloc (.cells #[.nilFunc, .nilFunc, .nilFunc, .nilFunc] 57)))
  go_enter Try.func40, Try.ntmps40
  go_wp2_with fail
  refine HC.out.mono ?_
  rintro e w2 ⟨vs, rfl, hP, hb2⟩
  have hP0 := hP
  obtain ⟨g1, g2, g3, g4, l1, l2, l3, l4, rfl, _⟩ := hP
  have hs : (w.alloc (.cells #[.nilFunc, .nilFunc, .nilFunc, .nilFunc] 57)).heap.size = w.heap.size + 1 := by simp
  rw [hs] at hP0
  have hr := row_later h0 hb2
  obtain ⟨z0, z1, z2, z3, y0, y1, y2, y3⟩ := row_four hr
  obtain ⟨m1, m2, m3⟩ := made hr (hb0.trans (hb2.mono hb0.size)) (Nat.le_refl _) (.func (.func g1) #[] l1) (.func (.func g2) #[] l2) (.func (.func g3) #[] l3) (.func (.func g4) #[] l4)
  obtain ⟨r0, r1, r2, r3, _⟩ := row_four m1
  have HI := Lib.hid ((hP0.since m2).low (show w.heap.size ≤ w.heap.size + 1 by omega))
  have HM := Lib.hid m3
  clear hP0 m1 m2 m3 hr h0 hb0 hb2 hs
  go_wp2_with fail
  refine bodyPost_ret_by (v := .agg #[.func (.func g1) #[] l1, .func (.func g2) #[] l2, .func (.func g3) #[] l3, .func (.func g4) #[] l4]) (by simp [results, Try.f40, go_sem, r0, r1, r2, r3]) rfl ?_
  exact ⟨_, rfl, HI.out, HM.out⟩

set_option maxRecDepth 100000 in
set_option maxHeartbeats 400000 in
theorem words_make (m : Nat) (hm : m ≤ 123) (w : World) : Calls Try.prog 39 #[.int .i64 (m : Int)] w (PartPost w (.words m)) := by
  have h0 := row_at w #[.nilFunc, .nilFunc, .nilFunc, .nilFunc] 57 w.heap.size rfl
  have hb0 : Below w.heap.size w (w.alloc (.cells #[.nilFunc, .nilFunc, .nilFunc, .nilFunc] 57)) := (Below.refl _ w).alloc (Nat.le_refl _) _
  have HC := Lib.hid (liW_make m hm (w.alloc (.cells #[.nilFunc, .nilFunc, .nilFunc, .nilFunc] 57)))
  go_enter Try.func39, Try.ntmps39
  go_wp2_with fail
  refine HC.out.mono ?_
  rintro e w2 ⟨vs, rfl, hP, hb2⟩
  have hP0 := hP
  obtain ⟨g1, g2, g3, g4, l1, l2, l3, l4, rfl, _⟩ := hP
  have hs : (w.alloc (.cells #[.nilFunc, .nilFunc, .nilFunc, .nilFunc] 57)).heap.size = w.heap.size + 1 := by simp
  rw [hs] at hP0
  have hr := row_later h0 hb2
  obtain ⟨z0, z1, z2, z3, y0, y1, y2, y3⟩ := row_four hr
  obtain ⟨m1, m2, m3⟩ := made hr (hb0.trans (hb2.mono hb0.size)) (Nat.le_refl _) (.func (.func g1) #[] l1) (.func (.func g2) #[] l2) (.func (.func g3) #[] l3) (.func (.func g4) #[] l4)
  obtain ⟨r0, r1, r2, r3, _⟩ := row_four m1
  have HI := Lib.hid ((hP0.since m2).low (show w.heap.size ≤ w.heap.size + 1 by omega))
  have HM := Lib.hid m3
  clear hP0 m1 m2 m3 hr h0 hb0 hb2 hs
  go_wp2_with fail
  refine bodyPost_ret_by (v := .agg #[.func (.func g1) #[] l1, .func (.func g2) #[] l2, .func (.func g3) #[] l3, .func (.func g4) #[] l4]) (by simp [results, Try.f39, go_sem, r0, r1, r2, r3]) rfl ?_
  exact ⟨_, rfl, HI.out, HM.out⟩
end Go.Proofs.Ytaembpncoicdpaa
