
/- A part of the proof of the law MasterDoes. -/
import Derived.Test.YtlgmjnjhdamknaaGreatMem
import Derived.Test.YtlgmjnjhdamknaaGreatPt
namespace Go.Proofs.YtlgmjnjhdamknaaGreat
open Go.RowKit Go.Shelf

theorem row_four {w : World} {g : Nat} {a b c d : Value} {t : TypeId} (h : w.heap[g]? = some (.cells #[a, b, c, d] t (0, 0))) :
    w.cell? ⟨g, 0, none⟩ = some a ∧ w.cell? ⟨g, 1, none⟩ = some b ∧ w.cell? ⟨g, 2, none⟩ = some c ∧ w.cell? ⟨g, 3, none⟩ = some d ∧ w.frozen? ⟨g, 0, none⟩ = false ∧ w.frozen? ⟨g, 1, none⟩ = false ∧ w.frozen? ⟨g, 2, none⟩ = false ∧ w.frozen? ⟨g, 3, none⟩ = false := by
  simp [World.cell?, World.frozen?, h]
theorem made {w W : World} {g : Nat} {t : TypeId} {a b c d : Value} (h : W.heap[g]? = some (.cells #[a, b, c, d] t (0, 0))) (hb : Below w.heap.size w W) (hg : w.heap.size ≤ g) (x1 x2 x3 x4 : Value) :
    ((((W.setCell ⟨g, 0, none⟩ x1).setCell ⟨g, 1, none⟩ x2).setCell ⟨g, 2, none⟩ x3).setCell ⟨g, 3, none⟩ x4).heap[g]? = some (.cells #[x1, x2, x3, x4] t (0, 0)) ∧
    Since (g + 1) W ((((W.setCell ⟨g, 0, none⟩ x1).setCell ⟨g, 1, none⟩ x2).setCell ⟨g, 2, none⟩ x3).setCell ⟨g, 3, none⟩ x4) ∧
    Below w.heap.size w ((((W.setCell ⟨g, 0, none⟩ x1).setCell ⟨g, 1, none⟩ x2).setCell ⟨g, 2, none⟩ x3).setCell ⟨g, 3, none⟩ x4) := by
  refine ⟨row_set (row_set (row_set (row_set h x1) x2) x3) x4, ⟨by simp [World.setCell], fun j h1 h2 => ?_⟩, (((hb.setCell (p := ⟨g, 0, none⟩) hg x1).setCell (p := ⟨g, 1, none⟩) hg x2).setCell (p := ⟨g, 2, none⟩) hg x3).setCell (p := ⟨g, 3, none⟩) hg x4⟩
  have hne : g ≠ j := by omega
  simp only [World.setCell, Array.getElem?_modify, if_neg hne]

set_option maxRecDepth 100000 in
set_option maxHeartbeats 400000 in
theorem addr_make (w : World) : Calls Tryz.prog 66 #[] w (PartPost w (.num .addr 2 0 65535)) := by
  have h0 := row_at w #[.nilFunc, .nilFunc, .nilFunc, .nilFunc] 122 w.heap.size rfl
  have hb0 : Below w.heap.size w (w.alloc (.cells #[.nilFunc, .nilFunc, .nilFunc, .nilFunc] 122)) := (Below.refl _ w).alloc (zq _) _
  have HC := qh (numI_make .addr 111 addrOf_ok 2 0 65535 ⟨.inr rfl, by omega, by omega⟩ (w.alloc (.cells #[.nilFunc, .nilFunc, .nilFunc, .nilFunc] 122)))
  go_enter Tryz.func66, Tryz.ntmps66
  go_wp2_with fail
  refine HC.out.mono ?_
  rintro e w2 ⟨vs, rfl, hP, hb2⟩
  have hP0 := hP
  obtain ⟨g1, g2, g3, g4, l1, l2, l3, l4, rfl, _⟩ := hP
  have hs : (w.alloc (.cells #[.nilFunc, .nilFunc, .nilFunc, .nilFunc] 122)).heap.size = w.heap.size + 1 := by simp
  rw [hs] at hP0
  have hr := row_later h0 hb2
  obtain ⟨z0, z1, z2, z3, y0, y1, y2, y3⟩ := row_four hr
  obtain ⟨m1, m2, m3⟩ := made hr (hb0.trans (hb2.mono hb0.size)) (zq _) (.func (.func g1) #[] l1) (.func (.func g2) #[] l2) (.func (.func g3) #[] l3) (.func (.func g4) #[] l4)
  obtain ⟨r0, r1, r2, r3, _⟩ := row_four m1
  have HI := qh ((hP0.since m2).low (show w.heap.size ≤ w.heap.size + 1 by omega))
  have HM := qh m3
  clear hP0 m1 m2 m3 hr h0 hb0 hb2 hs
  go_wp2_with fail
  refine bodyPost_ret_by (v := .agg #[.func (.func g1) #[] l1, .func (.func g2) #[] l2, .func (.func g3) #[] l3, .func (.func g4) #[] l4]) (by simp [results, Tryz.f66, go_sem, r0, r1, r2, r3]) rfl ?_
  exact ⟨_, rfl, HI.out, HM.out⟩

set_option maxRecDepth 100000 in
set_option maxHeartbeats 400000 in
theorem count_make (m : Nat) (hm : m ≤ 65535) (w : World) : Calls Tryz.prog 67 #[.int .i64 (m : Int)] w (PartPost w (.num .count 2 1 (m : Int))) := by
  have h0 := row_at w #[.nilFunc, .nilFunc, .nilFunc, .nilFunc] 122 w.heap.size rfl
  have hb0 : Below w.heap.size w (w.alloc (.cells #[.nilFunc, .nilFunc, .nilFunc, .nilFunc] 122)) := (Below.refl _ w).alloc (zq _) _
  have HC := qh (numI_make .count 112 countOf_ok 2 1 (m : Int) ⟨.inr rfl, by omega, by omega⟩ (w.alloc (.cells #[.nilFunc, .nilFunc, .nilFunc, .nilFunc] 122)))
  go_enter Tryz.func67, Tryz.ntmps67
  go_wp2_with fail
  refine HC.out.mono ?_
  rintro e w2 ⟨vs, rfl, hP, hb2⟩
  have hP0 := hP
  obtain ⟨g1, g2, g3, g4, l1, l2, l3, l4, rfl, _⟩ := hP
  have hs : (w.alloc (.cells #[.nilFunc, .nilFunc, .nilFunc, .nilFunc] 122)).heap.size = w.heap.size + 1 := by simp
  rw [hs] at hP0
  have hr := row_later h0 hb2
  obtain ⟨z0, z1, z2, z3, y0, y1, y2, y3⟩ := row_four hr
  obtain ⟨m1, m2, m3⟩ := made hr (hb0.trans (hb2.mono hb0.size)) (zq _) (.func (.func g1) #[] l1) (.func (.func g2) #[] l2) (.func (.func g3) #[] l3) (.func (.func g4) #[] l4)
  obtain ⟨r0, r1, r2, r3, _⟩ := row_four m1
  have HI := qh ((hP0.since m2).low (show w.heap.size ≤ w.heap.size + 1 by omega))
  have HM := qh m3
  clear hP0 m1 m2 m3 hr h0 hb0 hb2 hs
  go_wp2_with fail
  refine bodyPost_ret_by (v := .agg #[.func (.func g1) #[] l1, .func (.func g2) #[] l2, .func (.func g3) #[] l3, .func (.func g4) #[] l4]) (by simp [results, Tryz.f67, go_sem, r0, r1, r2, r3]) rfl ?_
  exact ⟨_, rfl, HI.out, HM.out⟩

set_option maxRecDepth 100000 in
set_option maxHeartbeats 400000 in
theorem to_make (w : World) : Calls Tryz.prog 87 #[] w (PartPost w (.num .to 2 0 65535)) := by
  have h0 := row_at w #[.nilFunc, .nilFunc, .nilFunc, .nilFunc] 122 w.heap.size rfl
  have hb0 : Below w.heap.size w (w.alloc (.cells #[.nilFunc, .nilFunc, .nilFunc, .nilFunc] 122)) := (Below.refl _ w).alloc (zq _) _
  have HC := qh (numI_make .to 136 toOf_ok 2 0 65535 ⟨.inr rfl, by omega, by omega⟩ (w.alloc (.cells #[.nilFunc, .nilFunc, .nilFunc, .nilFunc] 122)))
  go_enter Tryz.func87, Tryz.ntmps87
  go_wp2_with fail
  refine HC.out.mono ?_
  rintro e w2 ⟨vs, rfl, hP, hb2⟩
  have hP0 := hP
  obtain ⟨g1, g2, g3, g4, l1, l2, l3, l4, rfl, _⟩ := hP
  have hs : (w.alloc (.cells #[.nilFunc, .nilFunc, .nilFunc, .nilFunc] 122)).heap.size = w.heap.size + 1 := by simp
  rw [hs] at hP0
  have hr := row_later h0 hb2
  obtain ⟨z0, z1, z2, z3, y0, y1, y2, y3⟩ := row_four hr
  obtain ⟨m1, m2, m3⟩ := made hr (hb0.trans (hb2.mono hb0.size)) (zq _) (.func (.func g1) #[] l1) (.func (.func g2) #[] l2) (.func (.func g3) #[] l3) (.func (.func g4) #[] l4)
  obtain ⟨r0, r1, r2, r3, _⟩ := row_four m1
  have HI := qh ((hP0.since m2).low (show w.heap.size ≤ w.heap.size + 1 by omega))
  have HM := qh m3
  clear hP0 m1 m2 m3 hr h0 hb0 hb2 hs
  go_wp2_with fail
  refine bodyPost_ret_by (v := .agg #[.func (.func g1) #[] l1, .func (.func g2) #[] l2, .func (.func g3) #[] l3, .func (.func g4) #[] l4]) (by simp [results, Tryz.f87, go_sem, r0, r1, r2, r3]) rfl ?_
  exact ⟨_, rfl, HI.out, HM.out⟩

set_option maxRecDepth 100000 in
set_option maxHeartbeats 400000 in
theorem level_make (w : World) : Calls Tryz.prog 89 #[] w (PartPost w (.num .count 1 1 4)) := by
  have h0 := row_at w #[.nilFunc, .nilFunc, .nilFunc, .nilFunc] 122 w.heap.size rfl
  have hb0 : Below w.heap.size w (w.alloc (.cells #[.nilFunc, .nilFunc, .nilFunc, .nilFunc] 122)) := (Below.refl _ w).alloc (zq _) _
  have HC := qh (numI_make .count 112 countOf_ok 1 1 4 ⟨.inl rfl, by omega, by omega⟩ (w.alloc (.cells #[.nilFunc, .nilFunc, .nilFunc, .nilFunc] 122)))
  go_enter Tryz.func89, Tryz.ntmps89
  go_wp2_with fail
  refine HC.out.mono ?_
  rintro e w2 ⟨vs, rfl, hP, hb2⟩
  have hP0 := hP
  obtain ⟨g1, g2, g3, g4, l1, l2, l3, l4, rfl, _⟩ := hP
  have hs : (w.alloc (.cells #[.nilFunc, .nilFunc, .nilFunc, .nilFunc] 122)).heap.size = w.heap.size + 1 := by simp
  rw [hs] at hP0
  have hr := row_later h0 hb2
  obtain ⟨z0, z1, z2, z3, y0, y1, y2, y3⟩ := row_four hr
  obtain ⟨m1, m2, m3⟩ := made hr (hb0.trans (hb2.mono hb0.size)) (zq _) (.func (.func g1) #[] l1) (.func (.func g2) #[] l2) (.func (.func g3) #[] l3) (.func (.func g4) #[] l4)
  obtain ⟨r0, r1, r2, r3, _⟩ := row_four m1
  have HI := qh ((hP0.since m2).low (show w.heap.size ≤ w.heap.size + 1 by omega))
  have HM := qh m3
  clear hP0 m1 m2 m3 hr h0 hb0 hb2 hs
  go_wp2_with fail
  refine bodyPost_ret_by (v := .agg #[.func (.func g1) #[] l1, .func (.func g2) #[] l2, .func (.func g3) #[] l3, .func (.func g4) #[] l4]) (by simp [results, Tryz.f89, go_sem, r0, r1, r2, r3]) rfl ?_
  exact ⟨_, rfl, HI.out, HM.out⟩

set_option maxRecDepth 100000 in
set_option maxHeartbeats 400000 in
theorem object_make (w : World) : Calls Tryz.prog 90 #[] w (PartPost w (.num .addr 1 0 255)) := by
  have h0 := row_at w #[.nilFunc, .nilFunc, .nilFunc, .nilFunc] 122 w.heap.size rfl
  have hb0 : Below w.heap.size w (w.alloc (.cells #[.nilFunc, .nilFunc, .nilFunc, .nilFunc] 122)) := (Below.refl _ w).alloc (zq _) _
  have HC := qh (numI_make .addr 111 addrOf_ok 1 0 255 ⟨.inl rfl, by omega, by omega⟩ (w.alloc (.cells #[.nilFunc, .nilFunc, .nilFunc, .nilFunc] 122)))
  go_enter Tryz.func90, Tryz.ntmps90
  go_wp2_with fail
  refine HC.out.mono ?_
  rintro e w2 ⟨vs, rfl, hP, hb2⟩
  have hP0 := hP
  obtain ⟨g1, g2, g3, g4, l1, l2, l3, l4, rfl, _⟩ := hP
  have hs : (w.alloc (.cells #[.nilFunc, .nilFunc, .nilFunc, .nilFunc] 122)).heap.size = w.heap.size + 1 := by simp
  rw [hs] at hP0
  have hr := row_later h0 hb2
  obtain ⟨z0, z1, z2, z3, y0, y1, y2, y3⟩ := row_four hr
  obtain ⟨m1, m2, m3⟩ := made hr (hb0.trans (hb2.mono hb0.size)) (zq _) (.func (.func g1) #[] l1) (.func (.func g2) #[] l2) (.func (.func g3) #[] l3) (.func (.func g4) #[] l4)
  obtain ⟨r0, r1, r2, r3, _⟩ := row_four m1
  have HI := qh ((hP0.since m2).low (show w.heap.size ≤ w.heap.size + 1 by omega))
  have HM := qh m3
  clear hP0 m1 m2 m3 hr h0 hb0 hb2 hs
  go_wp2_with fail
  refine bodyPost_ret_by (v := .agg #[.func (.func g1) #[] l1, .func (.func g2) #[] l2, .func (.func g3) #[] l3, .func (.func g4) #[] l4]) (by simp [results, Tryz.f90, go_sem, r0, r1, r2, r3]) rfl ?_
  exact ⟨_, rfl, HI.out, HM.out⟩

set_option maxRecDepth 100000 in
set_option maxHeartbeats 400000 in
theorem mask_make (f : UF) (gof : Nat) (O : OfOK gof f.ix) (w : World) : Calls Tryz.prog 83 #[.func (.func gof) #[] #[]] w (PartPost w (.mask f)) := by
  have h0 := row_at w #[.nilFunc, .nilFunc, .nilFunc, .nilFunc] 122 w.heap.size rfl
  have hb0 : Below w.heap.size w (w.alloc (.cells #[.nilFunc, .nilFunc, .nilFunc, .nilFunc] 122)) := (Below.refl _ w).alloc (zq _) _
  have HC := qh (numU_make f gof O (w.alloc (.cells #[.nilFunc, .nilFunc, .nilFunc, .nilFunc] 122)))
  go_enter Tryz.func83, Tryz.ntmps83
  go_wp2_with fail
  refine HC.out.mono ?_
  rintro e w2 ⟨vs, rfl, hP, hb2⟩
  have hP0 := hP
  obtain ⟨g1, g2, g3, g4, l1, l2, l3, l4, rfl, _⟩ := hP
  have hs : (w.alloc (.cells #[.nilFunc, .nilFunc, .nilFunc, .nilFunc] 122)).heap.size = w.heap.size + 1 := by simp
  rw [hs] at hP0
  have hr := row_later h0 hb2
  obtain ⟨z0, z1, z2, z3, y0, y1, y2, y3⟩ := row_four hr
  obtain ⟨m1, m2, m3⟩ := made hr (hb0.trans (hb2.mono hb0.size)) (zq _) (.func (.func g1) #[] l1) (.func (.func g2) #[] l2) (.func (.func g3) #[] l3) (.func (.func g4) #[] l4)
  obtain ⟨r0, r1, r2, r3, _⟩ := row_four m1
  have HI := qh ((hP0.since m2).low (show w.heap.size ≤ w.heap.size + 1 by omega))
  have HM := qh m3
  clear hP0 m1 m2 m3 hr h0 hb0 hb2 hs
  go_wp2_with fail
  refine bodyPost_ret_by (v := .agg #[.func (.func g1) #[] l1, .func (.func g2) #[] l2, .func (.func g3) #[] l3, .func (.func g4) #[] l4]) (by simp [results, Tryz.f83, go_sem, r0, r1, r2, r3]) rfl ?_
  exact ⟨_, rfl, HI.out, HM.out⟩

set_option maxRecDepth 100000 in
set_option maxHeartbeats 400000 in
theorem words_make (m : Nat) (hm : m ≤ 123) (w : World) : Calls Tryz.prog 82 #[.int .i64 (m : Int)] w (PartPost w (.words m)) := by
  have h0 := row_at w #[.nilFunc, .nilFunc, .nilFunc, .nilFunc] 122 w.heap.size rfl
  have hb0 : Below w.heap.size w (w.alloc (.cells #[.nilFunc, .nilFunc, .nilFunc, .nilFunc] 122)) := (Below.refl _ w).alloc (zq _) _
  have HC := qh (liW_make m hm (w.alloc (.cells #[.nilFunc, .nilFunc, .nilFunc, .nilFunc] 122)))
  go_enter Tryz.func82, Tryz.ntmps82
  go_wp2_with fail
  refine HC.out.mono ?_
  rintro e w2 ⟨vs, rfl, hP, hb2⟩
  have hP0 := hP
  obtain ⟨g1, g2, g3, g4, l1, l2, l3, l4, rfl, _⟩ := hP
  have hs : (w.alloc (.cells #[.nilFunc, .nilFunc, .nilFunc, .nilFunc] 122)).heap.size = w.heap.size + 1 := by simp
  rw [hs] at hP0
  have hr := row_later h0 hb2
  obtain ⟨z0, z1, z2, z3, y0, y1, y2, y3⟩ := row_four hr
  obtain ⟨m1, m2, m3⟩ := made hr (hb0.trans (hb2.mono hb0.size)) (zq _) (.func (.func g1) #[] l1) (.func (.func g2) #[] l2) (.func (.func g3) #[] l3) (.func (.func g4) #[] l4)
  obtain ⟨r0, r1, r2, r3, _⟩ := row_four m1
  have HI := qh ((hP0.since m2).low (show w.heap.size ≤ w.heap.size + 1 by omega))
  have HM := qh m3
  clear hP0 m1 m2 m3 hr h0 hb0 hb2 hs
  go_wp2_with fail
  refine bodyPost_ret_by (v := .agg #[.func (.func g1) #[] l1, .func (.func g2) #[] l2, .func (.func g3) #[] l3, .func (.func g4) #[] l4]) (by simp [results, Tryz.f82, go_sem, r0, r1, r2, r3]) rfl ?_
  exact ⟨_, rfl, HI.out, HM.out⟩
end Go.Proofs.YtlgmjnjhdamknaaGreat

namespace Go.Proofs.YtlgmjnjhdamknaaGreat
open Go.RowKit Go.Shelf

inductive IK | count | bits | words | one | both | always
def IK.ok (a : Ask) : IK → Bool
  | count => decide (a.addr + a.count ≤ 65536)
  | bits => decide (a.addr + a.bits.length ≤ 65536)
  | words => decide (a.addr + a.words.length ≤ 65536)
  | one => decide (a.addr + 1 ≤ 65536)
  | both => decide (a.addr + a.count ≤ 65536) && decide (a.to + a.words.length ≤ 65536)
  | always => true
structure SmallA (a : Ask) : Prop where
  a0 : 0 ≤ a.addr
  a1 : a.addr ≤ 65535
  c0 : 0 ≤ a.count
  c1 : a.count ≤ 65535
  t0 : 0 ≤ a.to
  t1 : a.to ≤ 65535
  w1 : a.words.length ≤ 2000
  b1 : a.bits.length ≤ 2000
structure InsideOK (g : Nat) (i : IK) : Prop where
  en : Enters Tryz.prog g
  ca : ∀ (W : World) (a : Ask) (h k : Option Addr × Nat × Nat), AskIn W a h k → SmallA a → Calls Tryz.prog g #[askV a h k] W fun e w' => e = .returned (.bool (i.ok a)) ∧ Below W.heap.size W w'

set_option maxHeartbeats 400000 in
theorem countInside_ok : InsideOK 68 .count := ⟨enters_of Tryz.func68 (by kernel_rfl) rfl, fun W a h k ha s => by
  have HS := qh (stand_any a.addr a.count s.a0 (by have := s.a1; omega) s.c0 (by have := s.c1; omega))
  rw [askV_eq]
  go_enter Tryz.func68, Tryz.ntmps68
  go_wp2_with fail
  refine (HS.out _).mono ?_
  rintro e w' ⟨rfl, rfl⟩
  go_wp2_with fail
  go_ret
  exact ⟨rfl, (Below.refl _ _).alloc (zq _) _⟩⟩
set_option maxHeartbeats 400000 in
theorem oneInside_ok : InsideOK 86 .one := ⟨enters_of Tryz.func86 (by kernel_rfl) rfl, fun W a h k ha s => by
  have HS := qh (stand_any a.addr 1 s.a0 (by have := s.a1; omega) (by omega) (by omega))
  rw [askV_eq]
  go_enter Tryz.func86, Tryz.ntmps86
  go_wp2_with fail
  refine (HS.out _).mono ?_
  rintro e w' ⟨rfl, rfl⟩
  go_wp2_with fail
  go_ret
  exact ⟨rfl, (Below.refl _ _).alloc (zq _) _⟩⟩
set_option maxHeartbeats 400000 in
theorem wordsInside_ok : InsideOK 78 .words := ⟨enters_of Tryz.func78 (by kernel_rfl) rfl, fun W a h k ha s => by
  have HS := qh (stand_any a.addr a.words.length s.a0 (by have := s.a1; omega) (by omega) (by have := s.w1; omega))
  have HN := qh ha.hn
  rw [HN.out] at HS
  rw [askV_eq]
  go_enter Tryz.func78, Tryz.ntmps78
  go_wp2_with fail
  refine (HS.out _).mono ?_
  rintro e w' ⟨rfl, rfl⟩
  go_wp2_with fail
  go_ret
  exact ⟨by unfold IK.ok; rw [HN.out]; rfl, (Below.refl _ _).alloc (zq _) _⟩⟩
set_option maxHeartbeats 400000 in
theorem bitsInside_ok : InsideOK 73 .bits := ⟨enters_of Tryz.func73 (by kernel_rfl) rfl, fun W a h k ha s => by
  have HS := qh (stand_any a.addr a.bits.length s.a0 (by have := s.a1; omega) (by omega) (by have := s.b1; omega))
  have HN := qh ha.kn
  rw [HN.out] at HS
  rw [askV_eq]
  go_enter Tryz.func73, Tryz.ntmps73
  go_wp2_with fail
  refine (HS.out _).mono ?_
  rintro e w' ⟨rfl, rfl⟩
  go_wp2_with fail
  go_ret
  exact ⟨by unfold IK.ok; rw [HN.out]; rfl, (Below.refl _ _).alloc (zq _) _⟩⟩
set_option maxHeartbeats 400000 in
theorem bothInside_ok : InsideOK 88 .both := ⟨enters_of Tryz.func88 (by kernel_rfl) rfl, fun W a h k ha s => by
  have HS := qh (stand_any a.addr a.count s.a0 (by have := s.a1; omega) s.c0 (by have := s.c1; omega))
  have HS2 := qh (stand_any a.to a.words.length s.t0 (by have := s.t1; omega) (by omega) (by have := s.w1; omega))
  have HN := qh ha.hn
  rw [HN.out] at HS2
  have HV : Hid (IK.both.ok a = (decide (a.addr + a.count ≤ 65536) && decide (a.to + h.2.1 ≤ 65536))) := qh (by unfold IK.ok; rw [HN.out])
  rw [askV_eq]
  generalize decide (a.addr + a.count ≤ 65536) = V1 at *
  generalize decide (a.to + (h.2.1 : Int) ≤ 65536) = V2 at *
  cases V1
  · go_enter Tryz.func88, Tryz.ntmps88
    go_wp2_with fail
    refine (HS.out _).mono ?_
    rintro e w' ⟨rfl, rfl⟩
    go_wp2_with fail
    go_ret
    exact ⟨by rw [HV.out]; rfl, (Below.refl _ _).alloc (zq _) _⟩
  · go_enter Tryz.func88, Tryz.ntmps88
    go_wp2_with fail
    refine (HS.out _).mono ?_
    rintro e w' ⟨rfl, rfl⟩
    go_wp2_with fail
    refine (HS2.out _).mono ?_
    rintro e w' ⟨rfl, rfl⟩
    go_wp2_with fail
    go_ret
    exact ⟨by rw [HV.out]; simp, (Below.refl _ _).alloc (zq _) _⟩⟩
set_option maxHeartbeats 400000 in
theorem always_ok : InsideOK 91 .always := ⟨enters_of Tryz.func91 (by kernel_rfl) rfl, fun W a h k ha s => by
  rw [askV_eq]
  go_enter Tryz.func91, Tryz.ntmps91
  go_wp2_with fail
  go_ret
  exact ⟨rfl, by first | exact Below.refl _ _ | exact (Below.refl _ _).alloc (zq _) _⟩⟩

structure PV where
  g1 : Nat
  g2 : Nat
  g3 : Nat
  g4 : Nat
  l1 : Array Value
  l2 : Array Value
  l3 : Array Value
  l4 : Array Value
def PV.cells (v : PV) : List Value := [.func (.func v.g1) #[] v.l1, .func (.func v.g2) #[] v.l2, .func (.func v.g3) #[] v.l3, .func (.func v.g4) #[] v.l4]
def PartAt (lo : Nat) (w : World) (p : PK) (v : PV) : Prop := ∀ w0, Since lo w w0 → PartOK w0 p v.g1 v.g2 v.g3 v.g4 v.l1 v.l2 v.l3 v.l4
def PartsAt (lo : Nat) (w : World) : List PK → List PV → Prop
  | [], [] => True
  | p :: ps, v :: vs => PartAt lo w p v ∧ PartsAt lo w ps vs
  | _, _ => False
theorem PartAt.since {lo : Nat} {w w' : World} {p : PK} {v : PV} (h : PartAt lo w p v) (hb : Since lo w w') : PartAt lo w' p v := fun w0 h0 => h w0 (hb.trans h0)
theorem PartAt.low {lo lo' : Nat} {w : World} {p : PK} {v : PV} (h : PartAt lo w p v) (hl : lo' ≤ lo) : PartAt lo' w p v := fun w0 h0 => h w0 (h0.mono hl)
theorem PartsAt.since {lo : Nat} {w w' : World} : ∀ {ps : List PK} {vs : List PV}, PartsAt lo w ps vs → Since lo w w' → PartsAt lo w' ps vs
  | [], [], _, _ => trivial
  | _ :: _, _ :: _, h, hb => ⟨h.1.since hb, PartsAt.since h.2 hb⟩
  | [], _ :: _, h, _ => h.elim
  | _ :: _, [], h, _ => h.elim
theorem PartsAt.length {lo : Nat} {w : World} : ∀ {ps : List PK} {vs : List PV}, PartsAt lo w ps vs → vs.length = ps.length
  | [], [], _ => rfl
  | _ :: _, _ :: _, h => by rw [List.length_cons, List.length_cons, PartsAt.length h.2]
  | [], _ :: _, h => h.elim
  | _ :: _, [], h => h.elim
theorem PartsAt.get {lo : Nat} {w : World} : ∀ {ps : List PK} {vs : List PV}, PartsAt lo w ps vs → ∀ j (h1 : j < ps.length) (h2 : j < vs.length), PartAt lo w ps[j] vs[j]
  | _ :: _, _ :: _, h, 0, _, _ => h.1
  | _ :: _, _ :: _, h, j + 1, h1, h2 => PartsAt.get h.2 j (by simpa using h1) (by simpa using h2)
  | [], _ :: _, h, _, _, _ => h.elim
  | _ :: _, [], h, _, _, _ => h.elim
theorem PV.cells_get : ∀ (vs : List PV) (j i : Nat) (h : j < vs.length), i < 4 → (vs.flatMap PV.cells)[4 * j + i]? = vs[j].cells[i]?
  | v :: vs, 0, i, _, hi => by
    rw [List.flatMap_cons, List.getElem?_append_left (by show 4 * 0 + i < 4; omega)]
    simp
  | v :: vs, j + 1, i, h, hi => by
    rw [List.flatMap_cons, List.getElem?_append_right (by show 4 ≤ _; omega)]
    have := PV.cells_get vs j i (by simpa using h) hi
    rw [show 4 * (j + 1) + i - v.cells.length = 4 * j + i by show 4 * (j + 1) + i - 4 = _; omega, this]
    rfl

structure LK where
  begin_ : List UInt8
  parts : List PK
  inside : IK
def layOf (c : Int) : Option LK :=
  if c = 1 ∨ c = 2 then some ⟨[UInt8.ofNat c.toNat], [.num .addr 2 0 65535, .num .count 2 1 2000], .count⟩
  else if c = 3 ∨ c = 4 then some ⟨[UInt8.ofNat c.toNat], [.num .addr 2 0 65535, .num .count 2 1 125], .count⟩
  else if c = 5 then some ⟨[5], [.num .addr 2 0 65535, .bit], .bits⟩
  else if c = 6 then some ⟨[6], [.num .addr 2 0 65535, .word], .words⟩
  else if c = 15 then some ⟨[15], [.num .addr 2 0 65535, .bits 1968], .bits⟩
  else if c = 16 then some ⟨[16], [.num .addr 2 0 65535, .words 123], .words⟩
  else if c = 22 then some ⟨[22], [.num .addr 2 0 65535, .mask .and_, .mask .or_], .one⟩
  else if c = 23 then some ⟨[23], [.num .addr 2 0 65535, .num .count 2 1 125, .num .to 2 0 65535, .words 121], .both⟩
  else if c = 43 then some ⟨[43, 14], [.num .count 1 1 4, .num .addr 1 0 255], .always⟩
  else none
def LayIn (lo : Nat) (w : World) (L : LK) (v : Value) : Prop := ∃ A n c b m g pvs, v = .agg #[.slice A n c, .slice (some ⟨b, 0, none⟩) m m, .func (.func g) #[] #[]] ∧ L.begin_.length = n ∧ L.parts.length = m ∧ n ≤ c ∧ c ≤ maxLen ∧ Lies u8v w A L.begin_ ∧ (∀ b o s, A = some ⟨b, o, s⟩ → lo ≤ b) ∧ lo ≤ b ∧ w.heap[b]? = some (.cells (pvs.flatMap PV.cells).toArray 122 (0, 0)) ∧ InsideOK g L.inside ∧ PartsAt lo w L.parts pvs
def LayPost (w : World) (c : Int) (e : Ending) (w' : World) : Prop :=
  Below w.heap.size w w' ∧ (match layOf c with
    | none => e = .returned (.tuple #[.agg #[.slice none 0 0, .slice none 0 0, .nilFunc], .bool false])
    | some L => ∃ v, e = .returned (.tuple #[v, .bool true]) ∧ LayIn w.heap.size w' L v)
theorem row_tri {w : World} {g : Nat} {a b c : Value} {t : TypeId} (h : w.heap[g]? = some (.cells #[a, b, c] t (0, 0))) :
    w.cell? ⟨g, 0, none⟩ = some a ∧ w.cell? ⟨g, 1, none⟩ = some b ∧ w.cell? ⟨g, 2, none⟩ = some c ∧ w.frozen? ⟨g, 0, none⟩ = false ∧ w.frozen? ⟨g, 1, none⟩ = false ∧ w.frozen? ⟨g, 2, none⟩ = false := by
  simp [World.cell?, World.frozen?, h]
theorem made3 {w W : World} {g : Nat} {t : TypeId} {a b c : Value} (h : W.heap[g]? = some (.cells #[a, b, c] t (0, 0))) (hb : Below w.heap.size w W) (hg : w.heap.size ≤ g) (x1 x2 x3 : Value) :
    (((W.setCell ⟨g, 0, none⟩ x1).setCell ⟨g, 1, none⟩ x2).setCell ⟨g, 2, none⟩ x3).heap[g]? = some (.cells #[x1, x2, x3] t (0, 0)) ∧
    Since (g + 1) W (((W.setCell ⟨g, 0, none⟩ x1).setCell ⟨g, 1, none⟩ x2).setCell ⟨g, 2, none⟩ x3) ∧
    Below w.heap.size w (((W.setCell ⟨g, 0, none⟩ x1).setCell ⟨g, 1, none⟩ x2).setCell ⟨g, 2, none⟩ x3) := by
  refine ⟨row_set (row_set (row_set h x1) x2) x3, ⟨by simp [World.setCell], fun j h1 h2 => ?_⟩, ((hb.setCell (p := ⟨g, 0, none⟩) hg x1).setCell (p := ⟨g, 1, none⟩) hg x2).setCell (p := ⟨g, 2, none⟩) hg x3⟩
  have hne : g ≠ j := by omega
  simp only [World.setCell, Array.getElem?_modify, if_neg hne]
theorem Lies.since {α : Type} {f : α → Value} {lo : Nat} {w w' : World} {A : Option Addr} {l : List α} (h : Lies f w A l) (hs : Since lo w w') (hl : ∀ b o s, A = some ⟨b, o, s⟩ → lo ≤ b) : Lies f w' A l := fun j hj => by
  obtain ⟨b, off, rfl, hc⟩ := h j hj
  exact ⟨b, off, rfl, hs.cell (p := ⟨b, off + j, none⟩) hc (hl _ _ _ rfl)⟩
theorem LayIn.since {lo : Nat} {w w' : World} {L : LK} {v : Value} (h : LayIn lo w L v) (hs : Since lo w w') : LayIn lo w' L v := by
  obtain ⟨A, n, c, b, m, g, pvs, h1, h2, h3, h4, h5, h6, h7, h8, h9, h10, h11⟩ := h
  exact ⟨A, n, c, b, m, g, pvs, h1, h2, h3, h4, h5, h6.since hs h7, h7, h8, (hs.block b h8 (row_lt h9)).trans h9, h10, h11.since hs⟩
theorem since_alloc (lo : Nat) (w : World) (o : Obj) : Since lo w (w.alloc o) := Since.of_below ((Below.refl _ _).alloc (zq _) o)
theorem LayIn.low {lo lo' : Nat} {w : World} {L : LK} {v : Value} (h : LayIn lo w L v) (hl : lo' ≤ lo) : LayIn lo' w L v := by
  obtain ⟨A, n, c, b, m, g, pvs, h1, h2, h3, h4, h5, h6, h7, h8, h9, h10, h11⟩ := h
  have hp : ∀ {ps : List PK} {vs : List PV}, PartsAt lo w ps vs → PartsAt lo' w ps vs := by
    intro ps
    induction ps with
    | nil => intro vs h; cases vs with
      | nil => trivial
      | cons _ _ => exact h.elim
    | cons p ps ih => intro vs h; cases vs with
      | nil => exact h.elim
      | cons v vs => exact ⟨h.1.low hl, ih h.2⟩
  exact ⟨A, n, c, b, m, g, pvs, h1, h2, h3, h4, h5, h6, fun b o s e => Nat.le_trans hl (h7 b o s e), Nat.le_trans hl h8, h9, h10, hp h11⟩
end Go.Proofs.YtlgmjnjhdamknaaGreat
