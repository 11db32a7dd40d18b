
/- A part of the proof of the law MasterDoes. -/
import Derived.Test.YtlgmjnjhdamknaaGreatMem
import Derived.Test.YtlgmjnjhdamknaaGreatPw
namespace Go.Proofs.YtlgmjnjhdamknaaGreat
open Go.RowKit Go.Shelf

set_option maxRecDepth 100000 in
set_option maxHeartbeats 1000000 in
theorem lay1 (w : World) : Calls Tryz.prog 42 #[.int .i64 1] w (LayPost w 1) := by
  have r0 := row_at w #[.slice none 0 0, .slice none 0 0, .nilFunc] 98 w.heap.size rfl
  have hl : Lies u8v ((w.alloc (.cells #[.slice none 0 0, .slice none 0 0, .nilFunc] 98)).alloc (.cells #[.int .u8 1] 5)) (some ⟨w.heap.size + 1, 0, none⟩) [1] := lies_at (w.alloc (.cells #[.slice none 0 0, .slice none 0 0, .nilFunc] 98)) _ _ _ _ rfl (by simp)
  have hb2 : Below w.heap.size w ((w.alloc (.cells #[.slice none 0 0, .slice none 0 0, .nilFunc] 98)).alloc (.cells #[.int .u8 1] 5)) := ((Below.refl _ w).alloc (zq _) _).alloc (by simp) _
  have hz2 : ((w.alloc (.cells #[.slice none 0 0, .slice none 0 0, .nilFunc] 98)).alloc (.cells #[.int .u8 1] 5)).heap.size = w.heap.size + 1 + 1 := by simp
  have r2 := old_at r0 (.cells #[.int .u8 1] 5)
  have HC0 := qh (fun w => addr_make w)
  have HC1 := qh (fun w => count_make 2000 (by omega) w)
  have hfr : ∀ b o s, (some ⟨w.heap.size + 1, 0, none⟩ : Option Addr) = some ⟨b, o, s⟩ → w.heap.size + 1 ≤ b := fun b o s e => by cases e; exact zq _
  go_enter Tryz.func42, Tryz.ntmps42
  go_wp2_with fail
  refine (HC0.out _).mono ?_
  rintro e v0 ⟨vs, rfl, hP, hb⟩
  obtain ⟨g01, g02, g03, g04, l01, l02, l03, l04, rfl, hp⟩ := hP
  have hp0 := PartAt.low (v := ⟨g01, g02, g03, g04, l01, l02, l03, l04⟩) hp (lo' := w.heap.size + 1) (by simp)
  have hbb0 := hb2.trans (hb.mono hb2.size)
  have rr0 := row_later r2 hb
  have sn0 : Since (w.heap.size + 1) _ v0 := Since.of_below hb
  clear hp hb
  go_wp2_with fail
  refine (HC1.out _).mono ?_
  rintro e v1 ⟨vs, rfl, hP, hb⟩
  obtain ⟨g11, g12, g13, g14, l11, l12, l13, l14, rfl, hp⟩ := hP
  have hp1 := PartAt.low (v := ⟨g11, g12, g13, g14, l11, l12, l13, l14⟩) hp (lo' := w.heap.size + 1) (row_lt rr0)
  have hbb1 := hbb0.trans (hb.mono hbb0.size)
  have rr1 := row_later rr0 hb
  have sn1 : Since (w.heap.size + 1) _ v1 := Since.of_below hb
  clear hp hb
  have r5 := old_at rr1 (.cells #[.func (.func g01) #[] l01, .func (.func g02) #[] l02, .func (.func g03) #[] l03, .func (.func g04) #[] l04, .func (.func g11) #[] l11, .func (.func g12) #[] l12, .func (.func g13) #[] l13, .func (.func g14) #[] l14] 122)
  have hb5 : Below w.heap.size w (v1.alloc (.cells #[.func (.func g01) #[] l01, .func (.func g02) #[] l02, .func (.func g03) #[] l03, .func (.func g04) #[] l04, .func (.func g11) #[] l11, .func (.func g12) #[] l12, .func (.func g13) #[] l13, .func (.func g14) #[] l14] 122)) := hbb1.alloc hbb1.size _
  obtain ⟨m1, m2, m3⟩ := made3 r5 hb5 (zq _) (.slice (some ⟨w.heap.size + 1, 0, none⟩) 1 1) (.slice (some ⟨v1.heap.size, 0, none⟩) 2 2) (.func (.func 68) #[] #[])
  obtain ⟨z0, z1, z2, y0, y1, y2⟩ := row_tri r5
  obtain ⟨x0, x1, x2, _⟩ := row_tri m1
  have HL : Hid (LayIn (w.heap.size + 1) (v1.alloc (.cells #[.func (.func g01) #[] l01, .func (.func g02) #[] l02, .func (.func g03) #[] l03, .func (.func g04) #[] l04, .func (.func g11) #[] l11, .func (.func g12) #[] l12, .func (.func g13) #[] l13, .func (.func g14) #[] l14] 122)) ⟨[1],  [.num .addr 2 0 65535, .num .count 2 1 2000], .count⟩ (.agg #[.slice (some ⟨w.heap.size + 1, 0, none⟩) 1 1, .slice (some ⟨v1.heap.size, 0, none⟩) 2 2, .func (.func 68) #[] #[]])) := qh (by
    refine ⟨_, _, _, _, _, _, [⟨g01, g02, g03, g04, l01, l02, l03, l04⟩, ⟨g11, g12, g13, g14, l11, l12, l13, l14⟩], rfl, rfl, rfl, by omega, by unfold maxLen; omega, ?_, ?_, ?_, row_at v1 _ _ _ rfl, countInside_ok, ?_⟩
    · exact ((hl.since sn0 hfr).since sn1 hfr).since (since_alloc _ _ _) hfr
    · exact hfr
    · have := hbb1.size
      have := row_lt rr1
      omega
    · exact ⟨((hp0.since sn1).since (since_alloc _ _ _)), (hp1.since (since_alloc _ _ _)), trivial⟩)
  have HF := qh (HL.out.since m2)
  have HB := qh m3
  clear HL m1 m2 m3 r5 hb5 rr0 hbb0 hp0 sn0 rr1 hbb1 hp1 sn1
  go_wp2_with fail
  refine bodyPost_ret_by (v := .tuple #[.agg #[.slice (some ⟨w.heap.size + 1, 0, none⟩) 1 1, .slice (some ⟨v1.heap.size, 0, none⟩) 2 2, .func (.func 68) #[] #[]], .bool true]) (by simp [results, Tryz.f42, go_sem, x0, x1, x2]) rfl ?_
  exact ⟨HB.out, _, rfl, HF.out.low (by omega)⟩

set_option maxRecDepth 100000 in
set_option maxHeartbeats 1000000 in
theorem lay2 (w : World) : Calls Tryz.prog 42 #[.int .i64 2] w (LayPost w 2) := by
  have r0 := row_at w #[.slice none 0 0, .slice none 0 0, .nilFunc] 98 w.heap.size rfl
  have hl : Lies u8v ((w.alloc (.cells #[.slice none 0 0, .slice none 0 0, .nilFunc] 98)).alloc (.cells #[.int .u8 2] 5)) (some ⟨w.heap.size + 1, 0, none⟩) [2] := lies_at (w.alloc (.cells #[.slice none 0 0, .slice none 0 0, .nilFunc] 98)) _ _ _ _ rfl (by simp)
  have hb2 : Below w.heap.size w ((w.alloc (.cells #[.slice none 0 0, .slice none 0 0, .nilFunc] 98)).alloc (.cells #[.int .u8 2] 5)) := ((Below.refl _ w).alloc (zq _) _).alloc (by simp) _
  have hz2 : ((w.alloc (.cells #[.slice none 0 0, .slice none 0 0, .nilFunc] 98)).alloc (.cells #[.int .u8 2] 5)).heap.size = w.heap.size + 1 + 1 := by simp
  have r2 := old_at r0 (.cells #[.int .u8 2] 5)
  have HC0 := qh (fun w => addr_make w)
  have HC1 := qh (fun w => count_make 2000 (by omega) w)
  have hfr : ∀ b o s, (some ⟨w.heap.size + 1, 0, none⟩ : Option Addr) = some ⟨b, o, s⟩ → w.heap.size + 1 ≤ b := fun b o s e => by cases e; exact zq _
  go_enter Tryz.func42, Tryz.ntmps42
  go_wp2_with fail
  refine (HC0.out _).mono ?_
  rintro e v0 ⟨vs, rfl, hP, hb⟩
  obtain ⟨g01, g02, g03, g04, l01, l02, l03, l04, rfl, hp⟩ := hP
  have hp0 := PartAt.low (v := ⟨g01, g02, g03, g04, l01, l02, l03, l04⟩) hp (lo' := w.heap.size + 1) (by simp)
  have hbb0 := hb2.trans (hb.mono hb2.size)
  have rr0 := row_later r2 hb
  have sn0 : Since (w.heap.size + 1) _ v0 := Since.of_below hb
  clear hp hb
  go_wp2_with fail
  refine (HC1.out _).mono ?_
  rintro e v1 ⟨vs, rfl, hP, hb⟩
  obtain ⟨g11, g12, g13, g14, l11, l12, l13, l14, rfl, hp⟩ := hP
  have hp1 := PartAt.low (v := ⟨g11, g12, g13, g14, l11, l12, l13, l14⟩) hp (lo' := w.heap.size + 1) (row_lt rr0)
  have hbb1 := hbb0.trans (hb.mono hbb0.size)
  have rr1 := row_later rr0 hb
  have sn1 : Since (w.heap.size + 1) _ v1 := Since.of_below hb
  clear hp hb
  have r5 := old_at rr1 (.cells #[.func (.func g01) #[] l01, .func (.func g02) #[] l02, .func (.func g03) #[] l03, .func (.func g04) #[] l04, .func (.func g11) #[] l11, .func (.func g12) #[] l12, .func (.func g13) #[] l13, .func (.func g14) #[] l14] 122)
  have hb5 : Below w.heap.size w (v1.alloc (.cells #[.func (.func g01) #[] l01, .func (.func g02) #[] l02, .func (.func g03) #[] l03, .func (.func g04) #[] l04, .func (.func g11) #[] l11, .func (.func g12) #[] l12, .func (.func g13) #[] l13, .func (.func g14) #[] l14] 122)) := hbb1.alloc hbb1.size _
  obtain ⟨m1, m2, m3⟩ := made3 r5 hb5 (zq _) (.slice (some ⟨w.heap.size + 1, 0, none⟩) 1 1) (.slice (some ⟨v1.heap.size, 0, none⟩) 2 2) (.func (.func 68) #[] #[])
  obtain ⟨z0, z1, z2, y0, y1, y2⟩ := row_tri r5
  obtain ⟨x0, x1, x2, _⟩ := row_tri m1
  have HL : Hid (LayIn (w.heap.size + 1) (v1.alloc (.cells #[.func (.func g01) #[] l01, .func (.func g02) #[] l02, .func (.func g03) #[] l03, .func (.func g04) #[] l04, .func (.func g11) #[] l11, .func (.func g12) #[] l12, .func (.func g13) #[] l13, .func (.func g14) #[] l14] 122)) ⟨[2],  [.num .addr 2 0 65535, .num .count 2 1 2000], .count⟩ (.agg #[.slice (some ⟨w.heap.size + 1, 0, none⟩) 1 1, .slice (some ⟨v1.heap.size, 0, none⟩) 2 2, .func (.func 68) #[] #[]])) := qh (by
    refine ⟨_, _, _, _, _, _, [⟨g01, g02, g03, g04, l01, l02, l03, l04⟩, ⟨g11, g12, g13, g14, l11, l12, l13, l14⟩], rfl, rfl, rfl, by omega, by unfold maxLen; omega, ?_, ?_, ?_, row_at v1 _ _ _ rfl, countInside_ok, ?_⟩
    · exact ((hl.since sn0 hfr).since sn1 hfr).since (since_alloc _ _ _) hfr
    · exact hfr
    · have := hbb1.size
      have := row_lt rr1
      omega
    · exact ⟨((hp0.since sn1).since (since_alloc _ _ _)), (hp1.since (since_alloc _ _ _)), trivial⟩)
  have HF := qh (HL.out.since m2)
  have HB := qh m3
  clear HL m1 m2 m3 r5 hb5 rr0 hbb0 hp0 sn0 rr1 hbb1 hp1 sn1
  go_wp2_with fail
  refine bodyPost_ret_by (v := .tuple #[.agg #[.slice (some ⟨w.heap.size + 1, 0, none⟩) 1 1, .slice (some ⟨v1.heap.size, 0, none⟩) 2 2, .func (.func 68) #[] #[]], .bool true]) (by simp [results, Tryz.f42, go_sem, x0, x1, x2]) rfl ?_
  exact ⟨HB.out, _, rfl, HF.out.low (by omega)⟩

set_option maxRecDepth 100000 in
set_option maxHeartbeats 1000000 in
theorem lay3 (w : World) : Calls Tryz.prog 42 #[.int .i64 3] w (LayPost w 3) := by
  have r0 := row_at w #[.slice none 0 0, .slice none 0 0, .nilFunc] 98 w.heap.size rfl
  have hl : Lies u8v ((w.alloc (.cells #[.slice none 0 0, .slice none 0 0, .nilFunc] 98)).alloc (.cells #[.int .u8 3] 5)) (some ⟨w.heap.size + 1, 0, none⟩) [3] := lies_at (w.alloc (.cells #[.slice none 0 0, .slice none 0 0, .nilFunc] 98)) _ _ _ _ rfl (by simp)
  have hb2 : Below w.heap.size w ((w.alloc (.cells #[.slice none 0 0, .slice none 0 0, .nilFunc] 98)).alloc (.cells #[.int .u8 3] 5)) := ((Below.refl _ w).alloc (zq _) _).alloc (by simp) _
  have hz2 : ((w.alloc (.cells #[.slice none 0 0, .slice none 0 0, .nilFunc] 98)).alloc (.cells #[.int .u8 3] 5)).heap.size = w.heap.size + 1 + 1 := by simp
  have r2 := old_at r0 (.cells #[.int .u8 3] 5)
  have HC0 := qh (fun w => addr_make w)
  have HC1 := qh (fun w => count_make 125 (by omega) w)
  have hfr : ∀ b o s, (some ⟨w.heap.size + 1, 0, none⟩ : Option Addr) = some ⟨b, o, s⟩ → w.heap.size + 1 ≤ b := fun b o s e => by cases e; exact zq _
  go_enter Tryz.func42, Tryz.ntmps42
  go_wp2_with fail
  refine (HC0.out _).mono ?_
  rintro e v0 ⟨vs, rfl, hP, hb⟩
  obtain ⟨g01, g02, g03, g04, l01, l02, l03, l04, rfl, hp⟩ := hP
  have hp0 := PartAt.low (v := ⟨g01, g02, g03, g04, l01, l02, l03, l04⟩) hp (lo' := w.heap.size + 1) (by simp)
  have hbb0 := hb2.trans (hb.mono hb2.size)
  have rr0 := row_later r2 hb
  have sn0 : Since (w.heap.size + 1) _ v0 := Since.of_below hb
  clear hp hb
  go_wp2_with fail
  refine (HC1.out _).mono ?_
  rintro e v1 ⟨vs, rfl, hP, hb⟩
  obtain ⟨g11, g12, g13, g14, l11, l12, l13, l14, rfl, hp⟩ := hP
  have hp1 := PartAt.low (v := ⟨g11, g12, g13, g14, l11, l12, l13, l14⟩) hp (lo' := w.heap.size + 1) (row_lt rr0)
  have hbb1 := hbb0.trans (hb.mono hbb0.size)
  have rr1 := row_later rr0 hb
  have sn1 : Since (w.heap.size + 1) _ v1 := Since.of_below hb
  clear hp hb
  have r5 := old_at rr1 (.cells #[.func (.func g01) #[] l01, .func (.func g02) #[] l02, .func (.func g03) #[] l03, .func (.func g04) #[] l04, .func (.func g11) #[] l11, .func (.func g12) #[] l12, .func (.func g13) #[] l13, .func (.func g14) #[] l14] 122)
  have hb5 : Below w.heap.size w (v1.alloc (.cells #[.func (.func g01) #[] l01, .func (.func g02) #[] l02, .func (.func g03) #[] l03, .func (.func g04) #[] l04, .func (.func g11) #[] l11, .func (.func g12) #[] l12, .func (.func g13) #[] l13, .func (.func g14) #[] l14] 122)) := hbb1.alloc hbb1.size _
  obtain ⟨m1, m2, m3⟩ := made3 r5 hb5 (zq _) (.slice (some ⟨w.heap.size + 1, 0, none⟩) 1 1) (.slice (some ⟨v1.heap.size, 0, none⟩) 2 2) (.func (.func 68) #[] #[])
  obtain ⟨z0, z1, z2, y0, y1, y2⟩ := row_tri r5
  obtain ⟨x0, x1, x2, _⟩ := row_tri m1
  have HL : Hid (LayIn (w.heap.size + 1) (v1.alloc (.cells #[.func (.func g01) #[] l01, .func (.func g02) #[] l02, .func (.func g03) #[] l03, .func (.func g04) #[] l04, .func (.func g11) #[] l11, .func (.func g12) #[] l12, .func (.func g13) #[] l13, .func (.func g14) #[] l14] 122)) ⟨[3],  [.num .addr 2 0 65535, .num .count 2 1 125], .count⟩ (.agg #[.slice (some ⟨w.heap.size + 1, 0, none⟩) 1 1, .slice (some ⟨v1.heap.size, 0, none⟩) 2 2, .func (.func 68) #[] #[]])) := qh (by
    refine ⟨_, _, _, _, _, _, [⟨g01, g02, g03, g04, l01, l02, l03, l04⟩, ⟨g11, g12, g13, g14, l11, l12, l13, l14⟩], rfl, rfl, rfl, by omega, by unfold maxLen; omega, ?_, ?_, ?_, row_at v1 _ _ _ rfl, countInside_ok, ?_⟩
    · exact ((hl.since sn0 hfr).since sn1 hfr).since (since_alloc _ _ _) hfr
    · exact hfr
    · have := hbb1.size
      have := row_lt rr1
      omega
    · exact ⟨((hp0.since sn1).since (since_alloc _ _ _)), (hp1.since (since_alloc _ _ _)), trivial⟩)
  have HF := qh (HL.out.since m2)
  have HB := qh m3
  clear HL m1 m2 m3 r5 hb5 rr0 hbb0 hp0 sn0 rr1 hbb1 hp1 sn1
  go_wp2_with fail
  refine bodyPost_ret_by (v := .tuple #[.agg #[.slice (some ⟨w.heap.size + 1, 0, none⟩) 1 1, .slice (some ⟨v1.heap.size, 0, none⟩) 2 2, .func (.func 68) #[] #[]], .bool true]) (by simp [results, Tryz.f42, go_sem, x0, x1, x2]) rfl ?_
  exact ⟨HB.out, _, rfl, HF.out.low (by omega)⟩

set_option maxRecDepth 100000 in
set_option maxHeartbeats 1000000 in
theorem lay4 (w : World) : Calls Tryz.prog 42 #[.int .i64 4] w (LayPost w 4) := by
  have r0 := row_at w #[.slice none 0 0, .slice none 0 0, .nilFunc] 98 w.heap.size rfl
  have hl : Lies u8v ((w.alloc (.cells #[.slice none 0 0, .slice none 0 0, .nilFunc] 98)).alloc (.cells #[.int .u8 4] 5)) (some ⟨w.heap.size + 1, 0, none⟩) [4] := lies_at (w.alloc (.cells #[.slice none 0 0, .slice none 0 0, .nilFunc] 98)) _ _ _ _ rfl (by simp)
  have hb2 : Below w.heap.size w ((w.alloc (.cells #[.slice none 0 0, .slice none 0 0, .nilFunc] 98)).alloc (.cells #[.int .u8 4] 5)) := ((Below.refl _ w).alloc (zq _) _).alloc (by simp) _
  have hz2 : ((w.alloc (.cells #[.slice none 0 0, .slice none 0 0, .nilFunc] 98)).alloc (.cells #[.int .u8 4] 5)).heap.size = w.heap.size + 1 + 1 := by simp
  have r2 := old_at r0 (.cells #[.int .u8 4] 5)
  have HC0 := qh (fun w => addr_make w)
  have HC1 := qh (fun w => count_make 125 (by omega) w)
  have hfr : ∀ b o s, (some ⟨w.heap.size + 1, 0, none⟩ : Option Addr) = some ⟨b, o, s⟩ → w.heap.size + 1 ≤ b := fun b o s e => by cases e; exact zq _
  go_enter Tryz.func42, Tryz.ntmps42
  go_wp2_with fail
  refine (HC0.out _).mono ?_
  rintro e v0 ⟨vs, rfl, hP, hb⟩
  obtain ⟨g01, g02, g03, g04, l01, l02, l03, l04, rfl, hp⟩ := hP
  have hp0 := PartAt.low (v := ⟨g01, g02, g03, g04, l01, l02, l03, l04⟩) hp (lo' := w.heap.size + 1) (by simp)
  have hbb0 := hb2.trans (hb.mono hb2.size)
  have rr0 := row_later r2 hb
  have sn0 : Since (w.heap.size + 1) _ v0 := Since.of_below hb
  clear hp hb
  go_wp2_with fail
  refine (HC1.out _).mono ?_
  rintro e v1 ⟨vs, rfl, hP, hb⟩
  obtain ⟨g11, g12, g13, g14, l11, l12, l13, l14, rfl, hp⟩ := hP
  have hp1 := PartAt.low (v := ⟨g11, g12, g13, g14, l11, l12, l13, l14⟩) hp (lo' := w.heap.size + 1) (row_lt rr0)
  have hbb1 := hbb0.trans (hb.mono hbb0.size)
  have rr1 := row_later rr0 hb
  have sn1 : Since (w.heap.size + 1) _ v1 := Since.of_below hb
  clear hp hb
  have r5 := old_at rr1 (.cells #[.func (.func g01) #[] l01, .func (.func g02) #[] l02, .func (.func g03) #[] l03, .func (.func g04) #[] l04, .func (.func g11) #[] l11, .func (.func g12) #[] l12, .func (.func g13) #[] l13, .func (.func g14) #[] l14] 122)
  have hb5 : Below w.heap.size w (v1.alloc (.cells #[.func (.func g01) #[] l01, .func (.func g02) #[] l02, .func (.func g03) #[] l03, .func (.func g04) #[] l04, .func (.func g11) #[] l11, .func (.func g12) #[] l12, .func (.func g13) #[] l13, .func (.func g14) #[] l14] 122)) := hbb1.alloc hbb1.size _
  obtain ⟨m1, m2, m3⟩ := made3 r5 hb5 (zq _) (.slice (some ⟨w.heap.size + 1, 0, none⟩) 1 1) (.slice (some ⟨v1.heap.size, 0, none⟩) 2 2) (.func (.func 68) #[] #[])
  obtain ⟨z0, z1, z2, y0, y1, y2⟩ := row_tri r5
  obtain ⟨x0, x1, x2, _⟩ := row_tri m1
  have HL : Hid (LayIn (w.heap.size + 1) (v1.alloc (.cells #[.func (.func g01) #[] l01, .func (.func g02) #[] l02, .func (.func g03) #[] l03, .func (.func g04) #[] l04, .func (.func g11) #[] l11, .func (.func g12) #[] l12, .func (.func g13) #[] l13, .func (.func g14) #[] l14] 122)) ⟨[4],  [.num .addr 2 0 65535, .num .count 2 1 125], .count⟩ (.agg #[.slice (some ⟨w.heap.size + 1, 0, none⟩) 1 1, .slice (some ⟨v1.heap.size, 0, none⟩) 2 2, .func (.func 68) #[] #[]])) := qh (by
    refine ⟨_, _, _, _, _, _, [⟨g01, g02, g03, g04, l01, l02, l03, l04⟩, ⟨g11, g12, g13, g14, l11, l12, l13, l14⟩], rfl, rfl, rfl, by omega, by unfold maxLen; omega, ?_, ?_, ?_, row_at v1 _ _ _ rfl, countInside_ok, ?_⟩
    · exact ((hl.since sn0 hfr).since sn1 hfr).since (since_alloc _ _ _) hfr
    · exact hfr
    · have := hbb1.size
      have := row_lt rr1
      omega
    · exact ⟨((hp0.since sn1).since (since_alloc _ _ _)), (hp1.since (since_alloc _ _ _)), trivial⟩)
  have HF := qh (HL.out.since m2)
  have HB := qh m3
  clear HL m1 m2 m3 r5 hb5 rr0 hbb0 hp0 sn0 rr1 hbb1 hp1 sn1
  go_wp2_with fail
  refine bodyPost_ret_by (v := .tuple #[.agg #[.slice (some ⟨w.heap.size + 1, 0, none⟩) 1 1, .slice (some ⟨v1.heap.size, 0, none⟩) 2 2, .func (.func 68) #[] #[]], .bool true]) (by simp [results, Tryz.f42, go_sem, x0, x1, x2]) rfl ?_
  exact ⟨HB.out, _, rfl, HF.out.low (by omega)⟩

set_option maxRecDepth 100000 in
set_option maxHeartbeats 1000000 in
theorem lay5 (w : World) : Calls Tryz.prog 42 #[.int .i64 5] w (LayPost w 5) := by
  have r0 := row_at w #[.slice none 0 0, .slice none 0 0, .nilFunc] 98 w.heap.size rfl
  have hl : Lies u8v ((w.alloc (.cells #[.slice none 0 0, .slice none 0 0, .nilFunc] 98)).alloc (.cells #[.int .u8 5] 5)) (some ⟨w.heap.size + 1, 0, none⟩) [5] := lies_at (w.alloc (.cells #[.slice none 0 0, .slice none 0 0, .nilFunc] 98)) _ _ _ _ rfl (by simp)
  have hb2 : Below w.heap.size w ((w.alloc (.cells #[.slice none 0 0, .slice none 0 0, .nilFunc] 98)).alloc (.cells #[.int .u8 5] 5)) := ((Below.refl _ w).alloc (zq _) _).alloc (by simp) _
  have hz2 : ((w.alloc (.cells #[.slice none 0 0, .slice none 0 0, .nilFunc] 98)).alloc (.cells #[.int .u8 5] 5)).heap.size = w.heap.size + 1 + 1 := by simp
  have r2 := old_at r0 (.cells #[.int .u8 5] 5)
  have HC0 := qh (fun w => addr_make w)
  have HC1 := qh (fun w => siB_make w)
  have hfr : ∀ b o s, (some ⟨w.heap.size + 1, 0, none⟩ : Option Addr) = some ⟨b, o, s⟩ → w.heap.size + 1 ≤ b := fun b o s e => by cases e; exact zq _
  go_enter Tryz.func42, Tryz.ntmps42
  go_wp2_with fail
  refine (HC0.out _).mono ?_
  rintro e v0 ⟨vs, rfl, hP, hb⟩
  obtain ⟨g01, g02, g03, g04, l01, l02, l03, l04, rfl, hp⟩ := hP
  have hp0 := PartAt.low (v := ⟨g01, g02, g03, g04, l01, l02, l03, l04⟩) hp (lo' := w.heap.size + 1) (by simp)
  have hbb0 := hb2.trans (hb.mono hb2.size)
  have rr0 := row_later r2 hb
  have sn0 : Since (w.heap.size + 1) _ v0 := Since.of_below hb
  clear hp hb
  go_wp2_with fail
  refine (HC1.out _).mono ?_
  rintro e v1 ⟨vs, rfl, hP, hb⟩
  obtain ⟨g11, g12, g13, g14, l11, l12, l13, l14, rfl, hp⟩ := hP
  have hp1 := PartAt.low (v := ⟨g11, g12, g13, g14, l11, l12, l13, l14⟩) hp (lo' := w.heap.size + 1) (row_lt rr0)
  have hbb1 := hbb0.trans (hb.mono hbb0.size)
  have rr1 := row_later rr0 hb
  have sn1 : Since (w.heap.size + 1) _ v1 := Since.of_below hb
  clear hp hb
  have r5 := old_at rr1 (.cells #[.func (.func g01) #[] l01, .func (.func g02) #[] l02, .func (.func g03) #[] l03, .func (.func g04) #[] l04, .func (.func g11) #[] l11, .func (.func g12) #[] l12, .func (.func g13) #[] l13, .func (.func g14) #[] l14] 122)
  have hb5 : Below w.heap.size w (v1.alloc (.cells #[.func (.func g01) #[] l01, .func (.func g02) #[] l02, .func (.func g03) #[] l03, .func (.func g04) #[] l04, .func (.func g11) #[] l11, .func (.func g12) #[] l12, .func (.func g13) #[] l13, .func (.func g14) #[] l14] 122)) := hbb1.alloc hbb1.size _
  obtain ⟨m1, m2, m3⟩ := made3 r5 hb5 (zq _) (.slice (some ⟨w.heap.size + 1, 0, none⟩) 1 1) (.slice (some ⟨v1.heap.size, 0, none⟩) 2 2) (.func (.func 73) #[] #[])
  obtain ⟨z0, z1, z2, y0, y1, y2⟩ := row_tri r5
  obtain ⟨x0, x1, x2, _⟩ := row_tri m1
  have HL : Hid (LayIn (w.heap.size + 1) (v1.alloc (.cells #[.func (.func g01) #[] l01, .func (.func g02) #[] l02, .func (.func g03) #[] l03, .func (.func g04) #[] l04, .func (.func g11) #[] l11, .func (.func g12) #[] l12, .func (.func g13) #[] l13, .func (.func g14) #[] l14] 122)) ⟨[5],  [.num .addr 2 0 65535, .bit], .bits⟩ (.agg #[.slice (some ⟨w.heap.size + 1, 0, none⟩) 1 1, .slice (some ⟨v1.heap.size, 0, none⟩) 2 2, .func (.func 73) #[] #[]])) := qh (by
    refine ⟨_, _, _, _, _, _, [⟨g01, g02, g03, g04, l01, l02, l03, l04⟩, ⟨g11, g12, g13, g14, l11, l12, l13, l14⟩], rfl, rfl, rfl, by omega, by unfold maxLen; omega, ?_, ?_, ?_, row_at v1 _ _ _ rfl, bitsInside_ok, ?_⟩
    · exact ((hl.since sn0 hfr).since sn1 hfr).since (since_alloc _ _ _) hfr
    · exact hfr
    · have := hbb1.size
      have := row_lt rr1
      omega
    · exact ⟨((hp0.since sn1).since (since_alloc _ _ _)), (hp1.since (since_alloc _ _ _)), trivial⟩)
  have HF := qh (HL.out.since m2)
  have HB := qh m3
  clear HL m1 m2 m3 r5 hb5 rr0 hbb0 hp0 sn0 rr1 hbb1 hp1 sn1
  go_wp2_with fail
  refine bodyPost_ret_by (v := .tuple #[.agg #[.slice (some ⟨w.heap.size + 1, 0, none⟩) 1 1, .slice (some ⟨v1.heap.size, 0, none⟩) 2 2, .func (.func 73) #[] #[]], .bool true]) (by simp [results, Tryz.f42, go_sem, x0, x1, x2]) rfl ?_
  exact ⟨HB.out, _, rfl, HF.out.low (by omega)⟩

set_option maxRecDepth 100000 in
set_option maxHeartbeats 1000000 in
theorem lay6 (w : World) : Calls Tryz.prog 42 #[.int .i64 6] w (LayPost w 6) := by
  have r0 := row_at w #[.slice none 0 0, .slice none 0 0, .nilFunc] 98 w.heap.size rfl
  have hl : Lies u8v ((w.alloc (.cells #[.slice none 0 0, .slice none 0 0, .nilFunc] 98)).alloc (.cells #[.int .u8 6] 5)) (some ⟨w.heap.size + 1, 0, none⟩) [6] := lies_at (w.alloc (.cells #[.slice none 0 0, .slice none 0 0, .nilFunc] 98)) _ _ _ _ rfl (by simp)
  have hb2 : Below w.heap.size w ((w.alloc (.cells #[.slice none 0 0, .slice none 0 0, .nilFunc] 98)).alloc (.cells #[.int .u8 6] 5)) := ((Below.refl _ w).alloc (zq _) _).alloc (by simp) _
  have hz2 : ((w.alloc (.cells #[.slice none 0 0, .slice none 0 0, .nilFunc] 98)).alloc (.cells #[.int .u8 6] 5)).heap.size = w.heap.size + 1 + 1 := by simp
  have r2 := old_at r0 (.cells #[.int .u8 6] 5)
  have HC0 := qh (fun w => addr_make w)
  have HC1 := qh (fun w => siW_make w)
  have hfr : ∀ b o s, (some ⟨w.heap.size + 1, 0, none⟩ : Option Addr) = some ⟨b, o, s⟩ → w.heap.size + 1 ≤ b := fun b o s e => by cases e; exact zq _
  go_enter Tryz.func42, Tryz.ntmps42
  go_wp2_with fail
  refine (HC0.out _).mono ?_
  rintro e v0 ⟨vs, rfl, hP, hb⟩
  obtain ⟨g01, g02, g03, g04, l01, l02, l03, l04, rfl, hp⟩ := hP
  have hp0 := PartAt.low (v := ⟨g01, g02, g03, g04, l01, l02, l03, l04⟩) hp (lo' := w.heap.size + 1) (by simp)
  have hbb0 := hb2.trans (hb.mono hb2.size)
  have rr0 := row_later r2 hb
  have sn0 : Since (w.heap.size + 1) _ v0 := Since.of_below hb
  clear hp hb
  go_wp2_with fail
  refine (HC1.out _).mono ?_
  rintro e v1 ⟨vs, rfl, hP, hb⟩
  obtain ⟨g11, g12, g13, g14, l11, l12, l13, l14, rfl, hp⟩ := hP
  have hp1 := PartAt.low (v := ⟨g11, g12, g13, g14, l11, l12, l13, l14⟩) hp (lo' := w.heap.size + 1) (row_lt rr0)
  have hbb1 := hbb0.trans (hb.mono hbb0.size)
  have rr1 := row_later rr0 hb
  have sn1 : Since (w.heap.size + 1) _ v1 := Since.of_below hb
  clear hp hb
  have r5 := old_at rr1 (.cells #[.func (.func g01) #[] l01, .func (.func g02) #[] l02, .func (.func g03) #[] l03, .func (.func g04) #[] l04, .func (.func g11) #[] l11, .func (.func g12) #[] l12, .func (.func g13) #[] l13, .func (.func g14) #[] l14] 122)
  have hb5 : Below w.heap.size w (v1.alloc (.cells #[.func (.func g01) #[] l01, .func (.func g02) #[] l02, .func (.func g03) #[] l03, .func (.func g04) #[] l04, .func (.func g11) #[] l11, .func (.func g12) #[] l12, .func (.func g13) #[] l13, .func (.func g14) #[] l14] 122)) := hbb1.alloc hbb1.size _
  obtain ⟨m1, m2, m3⟩ := made3 r5 hb5 (zq _) (.slice (some ⟨w.heap.size + 1, 0, none⟩) 1 1) (.slice (some ⟨v1.heap.size, 0, none⟩) 2 2) (.func (.func 78) #[] #[])
  obtain ⟨z0, z1, z2, y0, y1, y2⟩ := row_tri r5
  obtain ⟨x0, x1, x2, _⟩ := row_tri m1
  have HL : Hid (LayIn (w.heap.size + 1) (v1.alloc (.cells #[.func (.func g01) #[] l01, .func (.func g02) #[] l02, .func (.func g03) #[] l03, .func (.func g04) #[] l04, .func (.func g11) #[] l11, .func (.func g12) #[] l12, .func (.func g13) #[] l13, .func (.func g14) #[] l14] 122)) ⟨[6],  [.num .addr 2 0 65535, .word], .words⟩ (.agg #[.slice (some ⟨w.heap.size + 1, 0, none⟩) 1 1, .slice (some ⟨v1.heap.size, 0, none⟩) 2 2, .func (.func 78) #[] #[]])) := qh (by
    refine ⟨_, _, _, _, _, _, [⟨g01, g02, g03, g04, l01, l02, l03, l04⟩, ⟨g11, g12, g13, g14, l11, l12, l13, l14⟩], rfl, rfl, rfl, by omega, by unfold maxLen; omega, ?_, ?_, ?_, row_at v1 _ _ _ rfl, wordsInside_ok, ?_⟩
    · exact ((hl.since sn0 hfr).since sn1 hfr).since (since_alloc _ _ _) hfr
    · exact hfr
    · have := hbb1.size
      have := row_lt rr1
      omega
    · exact ⟨((hp0.since sn1).since (since_alloc _ _ _)), (hp1.since (since_alloc _ _ _)), trivial⟩)
  have HF := qh (HL.out.since m2)
  have HB := qh m3
  clear HL m1 m2 m3 r5 hb5 rr0 hbb0 hp0 sn0 rr1 hbb1 hp1 sn1
  go_wp2_with fail
  refine bodyPost_ret_by (v := .tuple #[.agg #[.slice (some ⟨w.heap.size + 1, 0, none⟩) 1 1, .slice (some ⟨v1.heap.size, 0, none⟩) 2 2, .func (.func 78) #[] #[]], .bool true]) (by simp [results, Tryz.f42, go_sem, x0, x1, x2]) rfl ?_
  exact ⟨HB.out, _, rfl, HF.out.low (by omega)⟩

set_option maxRecDepth 100000 in
set_option maxHeartbeats 1000000 in
theorem lay15 (w : World) : Calls Tryz.prog 42 #[.int .i64 15] w (LayPost w 15) := by
  have r0 := row_at w #[.slice none 0 0, .slice none 0 0, .nilFunc] 98 w.heap.size rfl
  have hl : Lies u8v ((w.alloc (.cells #[.slice none 0 0, .slice none 0 0, .nilFunc] 98)).alloc (.cells #[.int .u8 15] 5)) (some ⟨w.heap.size + 1, 0, none⟩) [15] := lies_at (w.alloc (.cells #[.slice none 0 0, .slice none 0 0, .nilFunc] 98)) _ _ _ _ rfl (by simp)
  have hb2 : Below w.heap.size w ((w.alloc (.cells #[.slice none 0 0, .slice none 0 0, .nilFunc] 98)).alloc (.cells #[.int .u8 15] 5)) := ((Below.refl _ w).alloc (zq _) _).alloc (by simp) _
  have hz2 : ((w.alloc (.cells #[.slice none 0 0, .slice none 0 0, .nilFunc] 98)).alloc (.cells #[.int .u8 15] 5)).heap.size = w.heap.size + 1 + 1 := by simp
  have r2 := old_at r0 (.cells #[.int .u8 15] 5)
  have HC0 := qh (fun w => addr_make w)
  have HC1 := qh (fun w => liB_make 1968 (by omega) w)
  have hfr : ∀ b o s, (some ⟨w.heap.size + 1, 0, none⟩ : Option Addr) = some ⟨b, o, s⟩ → w.heap.size + 1 ≤ b := fun b o s e => by cases e; exact zq _
  go_enter Tryz.func42, Tryz.ntmps42
  go_wp2_with fail
  refine (HC0.out _).mono ?_
  rintro e v0 ⟨vs, rfl, hP, hb⟩
  obtain ⟨g01, g02, g03, g04, l01, l02, l03, l04, rfl, hp⟩ := hP
  have hp0 := PartAt.low (v := ⟨g01, g02, g03, g04, l01, l02, l03, l04⟩) hp (lo' := w.heap.size + 1) (by simp)
  have hbb0 := hb2.trans (hb.mono hb2.size)
  have rr0 := row_later r2 hb
  have sn0 : Since (w.heap.size + 1) _ v0 := Since.of_below hb
  clear hp hb
  go_wp2_with fail
  refine (HC1.out _).mono ?_
  rintro e v1 ⟨vs, rfl, hP, hb⟩
  obtain ⟨g11, g12, g13, g14, l11, l12, l13, l14, rfl, hp⟩ := hP
  have hp1 := PartAt.low (v := ⟨g11, g12, g13, g14, l11, l12, l13, l14⟩) hp (lo' := w.heap.size + 1) (row_lt rr0)
  have hbb1 := hbb0.trans (hb.mono hbb0.size)
  have rr1 := row_later rr0 hb
  have sn1 : Since (w.heap.size + 1) _ v1 := Since.of_below hb
  clear hp hb
  have r5 := old_at rr1 (.cells #[.func (.func g01) #[] l01, .func (.func g02) #[] l02, .func (.func g03) #[] l03, .func (.func g04) #[] l04, .func (.func g11) #[] l11, .func (.func g12) #[] l12, .func (.func g13) #[] l13, .func (.func g14) #[] l14] 122)
  have hb5 : Below w.heap.size w (v1.alloc (.cells #[.func (.func g01) #[] l01, .func (.func g02) #[] l02, .func (.func g03) #[] l03, .func (.func g04) #[] l04, .func (.func g11) #[] l11, .func (.func g12) #[] l12, .func (.func g13) #[] l13, .func (.func g14) #[] l14] 122)) := hbb1.alloc hbb1.size _
  obtain ⟨m1, m2, m3⟩ := made3 r5 hb5 (zq _) (.slice (some ⟨w.heap.size + 1, 0, none⟩) 1 1) (.slice (some ⟨v1.heap.size, 0, none⟩) 2 2) (.func (.func 73) #[] #[])
  obtain ⟨z0, z1, z2, y0, y1, y2⟩ := row_tri r5
  obtain ⟨x0, x1, x2, _⟩ := row_tri m1
  have HL : Hid (LayIn (w.heap.size + 1) (v1.alloc (.cells #[.func (.func g01) #[] l01, .func (.func g02) #[] l02, .func (.func g03) #[] l03, .func (.func g04) #[] l04, .func (.func g11) #[] l11, .func (.func g12) #[] l12, .func (.func g13) #[] l13, .func (.func g14) #[] l14] 122)) ⟨[15],  [.num .addr 2 0 65535, .bits 1968], .bits⟩ (.agg #[.slice (some ⟨w.heap.size + 1, 0, none⟩) 1 1, .slice (some ⟨v1.heap.size, 0, none⟩) 2 2, .func (.func 73) #[] #[]])) := qh (by
    refine ⟨_, _, _, _, _, _, [⟨g01, g02, g03, g04, l01, l02, l03, l04⟩, ⟨g11, g12, g13, g14, l11, l12, l13, l14⟩], rfl, rfl, rfl, by omega, by unfold maxLen; omega, ?_, ?_, ?_, row_at v1 _ _ _ rfl, bitsInside_ok, ?_⟩
    · exact ((hl.since sn0 hfr).since sn1 hfr).since (since_alloc _ _ _) hfr
    · exact hfr
    · have := hbb1.size
      have := row_lt rr1
      omega
    · exact ⟨((hp0.since sn1).since (since_alloc _ _ _)), (hp1.since (since_alloc _ _ _)), trivial⟩)
  have HF := qh (HL.out.since m2)
  have HB := qh m3
  clear HL m1 m2 m3 r5 hb5 rr0 hbb0 hp0 sn0 rr1 hbb1 hp1 sn1
  go_wp2_with fail
  refine bodyPost_ret_by (v := .tuple #[.agg #[.slice (some ⟨w.heap.size + 1, 0, none⟩) 1 1, .slice (some ⟨v1.heap.size, 0, none⟩) 2 2, .func (.func 73) #[] #[]], .bool true]) (by simp [results, Tryz.f42, go_sem, x0, x1, x2]) rfl ?_
  exact ⟨HB.out, _, rfl, HF.out.low (by omega)⟩

set_option maxRecDepth 100000 in
set_option maxHeartbeats 1000000 in
theorem lay16 (w : World) : Calls Tryz.prog 42 #[.int .i64 16] w (LayPost w 16) := by
  have r0 := row_at w #[.slice none 0 0, .slice none 0 0, .nilFunc] 98 w.heap.size rfl
  have hl : Lies u8v ((w.alloc (.cells #[.slice none 0 0, .slice none 0 0, .nilFunc] 98)).alloc (.cells #[.int .u8 16] 5)) (some ⟨w.heap.size + 1, 0, none⟩) [16] := lies_at (w.alloc (.cells #[.slice none 0 0, .slice none 0 0, .nilFunc] 98)) _ _ _ _ rfl (by simp)
  have hb2 : Below w.heap.size w ((w.alloc (.cells #[.slice none 0 0, .slice none 0 0, .nilFunc] 98)).alloc (.cells #[.int .u8 16] 5)) := ((Below.refl _ w).alloc (zq _) _).alloc (by simp) _
  have hz2 : ((w.alloc (.cells #[.slice none 0 0, .slice none 0 0, .nilFunc] 98)).alloc (.cells #[.int .u8 16] 5)).heap.size = w.heap.size + 1 + 1 := by simp
  have r2 := old_at r0 (.cells #[.int .u8 16] 5)
  have HC0 := qh (fun w => addr_make w)
  have HC1 := qh (fun w => words_make 123 (by omega) w)
  have hfr : ∀ b o s, (some ⟨w.heap.size + 1, 0, none⟩ : Option Addr) = some ⟨b, o, s⟩ → w.heap.size + 1 ≤ b := fun b o s e => by cases e; exact zq _
  go_enter Tryz.func42, Tryz.ntmps42
  go_wp2_with fail
  refine (HC0.out _).mono ?_
  rintro e v0 ⟨vs, rfl, hP, hb⟩
  obtain ⟨g01, g02, g03, g04, l01, l02, l03, l04, rfl, hp⟩ := hP
  have hp0 := PartAt.low (v := ⟨g01, g02, g03, g04, l01, l02, l03, l04⟩) hp (lo' := w.heap.size + 1) (by simp)
  have hbb0 := hb2.trans (hb.mono hb2.size)
  have rr0 := row_later r2 hb
  have sn0 : Since (w.heap.size + 1) _ v0 := Since.of_below hb
  clear hp hb
  go_wp2_with fail
  refine (HC1.out _).mono ?_
  rintro e v1 ⟨vs, rfl, hP, hb⟩
  obtain ⟨g11, g12, g13, g14, l11, l12, l13, l14, rfl, hp⟩ := hP
  have hp1 := PartAt.low (v := ⟨g11, g12, g13, g14, l11, l12, l13, l14⟩) hp (lo' := w.heap.size + 1) (row_lt rr0)
  have hbb1 := hbb0.trans (hb.mono hbb0.size)
  have rr1 := row_later rr0 hb
  have sn1 : Since (w.heap.size + 1) _ v1 := Since.of_below hb
  clear hp hb
  have r5 := old_at rr1 (.cells #[.func (.func g01) #[] l01, .func (.func g02) #[] l02, .func (.func g03) #[] l03, .func (.func g04) #[] l04, .func (.func g11) #[] l11, .func (.func g12) #[] l12, .func (.func g13) #[] l13, .func (.func g14) #[] l14] 122)
  have hb5 : Below w.heap.size w (v1.alloc (.cells #[.func (.func g01) #[] l01, .func (.func g02) #[] l02, .func (.func g03) #[] l03, .func (.func g04) #[] l04, .func (.func g11) #[] l11, .func (.func g12) #[] l12, .func (.func g13) #[] l13, .func (.func g14) #[] l14] 122)) := hbb1.alloc hbb1.size _
  obtain ⟨m1, m2, m3⟩ := made3 r5 hb5 (zq _) (.slice (some ⟨w.heap.size + 1, 0, none⟩) 1 1) (.slice (some ⟨v1.heap.size, 0, none⟩) 2 2) (.func (.func 78) #[] #[])
  obtain ⟨z0, z1, z2, y0, y1, y2⟩ := row_tri r5
  obtain ⟨x0, x1, x2, _⟩ := row_tri m1
  have HL : Hid (LayIn (w.heap.size + 1) (v1.alloc (.cells #[.func (.func g01) #[] l01, .func (.func g02) #[] l02, .func (.func g03) #[] l03, .func (.func g04) #[] l04, .func (.func g11) #[] l11, .func (.func g12) #[] l12, .func (.func g13) #[] l13, .func (.func g14) #[] l14] 122)) ⟨[16],  [.num .addr 2 0 65535, .words 123], .words⟩ (.agg #[.slice (some ⟨w.heap.size + 1, 0, none⟩) 1 1, .slice (some ⟨v1.heap.size, 0, none⟩) 2 2, .func (.func 78) #[] #[]])) := qh (by
    refine ⟨_, _, _, _, _, _, [⟨g01, g02, g03, g04, l01, l02, l03, l04⟩, ⟨g11, g12, g13, g14, l11, l12, l13, l14⟩], rfl, rfl, rfl, by omega, by unfold maxLen; omega, ?_, ?_, ?_, row_at v1 _ _ _ rfl, wordsInside_ok, ?_⟩
    · exact ((hl.since sn0 hfr).since sn1 hfr).since (since_alloc _ _ _) hfr
    · exact hfr
    · have := hbb1.size
      have := row_lt rr1
      omega
    · exact ⟨((hp0.since sn1).since (since_alloc _ _ _)), (hp1.since (since_alloc _ _ _)), trivial⟩)
  have HF := qh (HL.out.since m2)
  have HB := qh m3
  clear HL m1 m2 m3 r5 hb5 rr0 hbb0 hp0 sn0 rr1 hbb1 hp1 sn1
  go_wp2_with fail
  refine bodyPost_ret_by (v := .tuple #[.agg #[.slice (some ⟨w.heap.size + 1, 0, none⟩) 1 1, .slice (some ⟨v1.heap.size, 0, none⟩) 2 2, .func (.func 78) #[] #[]], .bool true]) (by simp [results, Tryz.f42, go_sem, x0, x1, x2]) rfl ?_
  exact ⟨HB.out, _, rfl, HF.out.low (by omega)⟩

set_option maxRecDepth 100000 in
set_option maxHeartbeats 1000000 in
theorem lay22 (w : World) : Calls Tryz.prog 42 #[.int .i64 22] w (LayPost w 22) := by
  have r0 := row_at w #[.slice none 0 0, .slice none 0 0, .nilFunc] 98 w.heap.size rfl
  have hl : Lies u8v ((w.alloc (.cells #[.slice none 0 0, .slice none 0 0, .nilFunc] 98)).alloc (.cells #[.int .u8 22] 5)) (some ⟨w.heap.size + 1, 0, none⟩) [22] := lies_at (w.alloc (.cells #[.slice none 0 0, .slice none 0 0, .nilFunc] 98)) _ _ _ _ rfl (by simp)
  have hb2 : Below w.heap.size w ((w.alloc (.cells #[.slice none 0 0, .slice none 0 0, .nilFunc] 98)).alloc (.cells #[.int .u8 22] 5)) := ((Below.refl _ w).alloc (zq _) _).alloc (by simp) _
  have hz2 : ((w.alloc (.cells #[.slice none 0 0, .slice none 0 0, .nilFunc] 98)).alloc (.cells #[.int .u8 22] 5)).heap.size = w.heap.size + 1 + 1 := by simp
  have r2 := old_at r0 (.cells #[.int .u8 22] 5)
  have HC0 := qh (fun w => addr_make w)
  have HC1 := qh (fun w => mask_make .and_ 84 andOf_ok w)
  have HC2 := qh (fun w => mask_make .or_ 85 orOf_ok w)
  have hfr : ∀ b o s, (some ⟨w.heap.size + 1, 0, none⟩ : Option Addr) = some ⟨b, o, s⟩ → w.heap.size + 1 ≤ b := fun b o s e => by cases e; exact zq _
  go_enter Tryz.func42, Tryz.ntmps42
  go_wp2_with fail
  refine (HC0.out _).mono ?_
  rintro e v0 ⟨vs, rfl, hP, hb⟩
  obtain ⟨g01, g02, g03, g04, l01, l02, l03, l04, rfl, hp⟩ := hP
  have hp0 := PartAt.low (v := ⟨g01, g02, g03, g04, l01, l02, l03, l04⟩) hp (lo' := w.heap.size + 1) (by simp)
  have hbb0 := hb2.trans (hb.mono hb2.size)
  have rr0 := row_later r2 hb
  have sn0 : Since (w.heap.size + 1) _ v0 := Since.of_below hb
  clear hp hb
  go_wp2_with fail
  refine (HC1.out _).mono ?_
  rintro e v1 ⟨vs, rfl, hP, hb⟩
  obtain ⟨g11, g12, g13, g14, l11, l12, l13, l14, rfl, hp⟩ := hP
  have hp1 := PartAt.low (v := ⟨g11, g12, g13, g14, l11, l12, l13, l14⟩) hp (lo' := w.heap.size + 1) (row_lt rr0)
  have hbb1 := hbb0.trans (hb.mono hbb0.size)
  have rr1 := row_later rr0 hb
  have sn1 : Since (w.heap.size + 1) _ v1 := Since.of_below hb
  clear hp hb
  go_wp2_with fail
  refine (HC2.out _).mono ?_
  rintro e v2 ⟨vs, rfl, hP, hb⟩
  obtain ⟨g21, g22, g23, g24, l21, l22, l23, l24, rfl, hp⟩ := hP
  have hp2 := PartAt.low (v := ⟨g21, g22, g23, g24, l21, l22, l23, l24⟩) hp (lo' := w.heap.size + 1) (row_lt rr1)
  have hbb2 := hbb1.trans (hb.mono hbb1.size)
  have rr2 := row_later rr1 hb
  have sn2 : Since (w.heap.size + 1) _ v2 := Since.of_below hb
  clear hp hb
  have r5 := old_at rr2 (.cells #[.func (.func g01) #[] l01, .func (.func g02) #[] l02, .func (.func g03) #[] l03, .func (.func g04) #[] l04, .func (.func g11) #[] l11, .func (.func g12) #[] l12, .func (.func g13) #[] l13, .func (.func g14) #[] l14, .func (.func g21) #[] l21, .func (.func g22) #[] l22, .func (.func g23) #[] l23, .func (.func g24) #[] l24] 122)
  have hb5 : Below w.heap.size w (v2.alloc (.cells #[.func (.func g01) #[] l01, .func (.func g02) #[] l02, .func (.func g03) #[] l03, .func (.func g04) #[] l04, .func (.func g11) #[] l11, .func (.func g12) #[] l12, .func (.func g13) #[] l13, .func (.func g14) #[] l14, .func (.func g21) #[] l21, .func (.func g22) #[] l22, .func (.func g23) #[] l23, .func (.func g24) #[] l24] 122)) := hbb2.alloc hbb2.size _
  obtain ⟨m1, m2, m3⟩ := made3 r5 hb5 (zq _) (.slice (some ⟨w.heap.size + 1, 0, none⟩) 1 1) (.slice (some ⟨v2.heap.size, 0, none⟩) 3 3) (.func (.func 86) #[] #[])
  obtain ⟨z0, z1, z2, y0, y1, y2⟩ := row_tri r5
  obtain ⟨x0, x1, x2, _⟩ := row_tri m1
  have HL : Hid (LayIn (w.heap.size + 1) (v2.alloc (.cells #[.func (.func g01) #[] l01, .func (.func g02) #[] l02, .func (.func g03) #[] l03, .func (.func g04) #[] l04, .func (.func g11) #[] l11, .func (.func g12) #[] l12, .func (.func g13) #[] l13, .func (.func g14) #[] l14, .func (.func g21) #[] l21, .func (.func g22) #[] l22, .func (.func g23) #[] l23, .func (.func g24) #[] l24] 122)) ⟨[22],  [.num .addr 2 0 65535, .mask .and_, .mask .or_], .one⟩ (.agg #[.slice (some ⟨w.heap.size + 1, 0, none⟩) 1 1, .slice (some ⟨v2.heap.size, 0, none⟩) 3 3, .func (.func 86) #[] #[]])) := qh (by
    refine ⟨_, _, _, _, _, _, [⟨g01, g02, g03, g04, l01, l02, l03, l04⟩, ⟨g11, g12, g13, g14, l11, l12, l13, l14⟩, ⟨g21, g22, g23, g24, l21, l22, l23, l24⟩], rfl, rfl, rfl, by omega, by unfold maxLen; omega, ?_, ?_, ?_, row_at v2 _ _ _ rfl, oneInside_ok, ?_⟩
    · exact (((hl.since sn0 hfr).since sn1 hfr).since sn2 hfr).since (since_alloc _ _ _) hfr
    · exact hfr
    · have := hbb2.size
      have := row_lt rr2
      omega
    · exact ⟨(((hp0.since sn1).since sn2).since (since_alloc _ _ _)), ((hp1.since sn2).since (since_alloc _ _ _)), (hp2.since (since_alloc _ _ _)), trivial⟩)
  have HF := qh (HL.out.since m2)
  have HB := qh m3
  clear HL m1 m2 m3 r5 hb5 rr0 hbb0 hp0 sn0 rr1 hbb1 hp1 sn1 rr2 hbb2 hp2 sn2
  go_wp2_with fail
  refine bodyPost_ret_by (v := .tuple #[.agg #[.slice (some ⟨w.heap.size + 1, 0, none⟩) 1 1, .slice (some ⟨v2.heap.size, 0, none⟩) 3 3, .func (.func 86) #[] #[]], .bool true]) (by simp [results, Tryz.f42, go_sem, x0, x1, x2]) rfl ?_
  exact ⟨HB.out, _, rfl, HF.out.low (by omega)⟩

set_option maxRecDepth 100000 in
set_option maxHeartbeats 1000000 in
theorem lay23 (w : World) : Calls Tryz.prog 42 #[.int .i64 23] w (LayPost w 23) := by
  have r0 := row_at w #[.slice none 0 0, .slice none 0 0, .nilFunc] 98 w.heap.size rfl
  have hl : Lies u8v ((w.alloc (.cells #[.slice none 0 0, .slice none 0 0, .nilFunc] 98)).alloc (.cells #[.int .u8 23] 5)) (some ⟨w.heap.size + 1, 0, none⟩) [23] := lies_at (w.alloc (.cells #[.slice none 0 0, .slice none 0 0, .nilFunc] 98)) _ _ _ _ rfl (by simp)
  have hb2 : Below w.heap.size w ((w.alloc (.cells #[.slice none 0 0, .slice none 0 0, .nilFunc] 98)).alloc (.cells #[.int .u8 23] 5)) := ((Below.refl _ w).alloc (zq _) _).alloc (by simp) _
  have hz2 : ((w.alloc (.cells #[.slice none 0 0, .slice none 0 0, .nilFunc] 98)).alloc (.cells #[.int .u8 23] 5)).heap.size = w.heap.size + 1 + 1 := by simp
  have r2 := old_at r0 (.cells #[.int .u8 23] 5)
  have HC0 := qh (fun w => addr_make w)
  have HC1 := qh (fun w => count_make 125 (by omega) w)
  have HC2 := qh (fun w => to_make w)
  have HC3 := qh (fun w => words_make 121 (by omega) w)
  have hfr : ∀ b o s, (some ⟨w.heap.size + 1, 0, none⟩ : Option Addr) = some ⟨b, o, s⟩ → w.heap.size + 1 ≤ b := fun b o s e => by cases e; exact zq _
  go_enter Tryz.func42, Tryz.ntmps42
  go_wp2_with fail
  refine (HC0.out _).mono ?_
  rintro e v0 ⟨vs, rfl, hP, hb⟩
  obtain ⟨g01, g02, g03, g04, l01, l02, l03, l04, rfl, hp⟩ := hP
  have hp0 := PartAt.low (v := ⟨g01, g02, g03, g04, l01, l02, l03, l04⟩) hp (lo' := w.heap.size + 1) (by simp)
  have hbb0 := hb2.trans (hb.mono hb2.size)
  have rr0 := row_later r2 hb
  have sn0 : Since (w.heap.size + 1) _ v0 := Since.of_below hb
  clear hp hb
  go_wp2_with fail
  refine (HC1.out _).mono ?_
  rintro e v1 ⟨vs, rfl, hP, hb⟩
  obtain ⟨g11, g12, g13, g14, l11, l12, l13, l14, rfl, hp⟩ := hP
  have hp1 := PartAt.low (v := ⟨g11, g12, g13, g14, l11, l12, l13, l14⟩) hp (lo' := w.heap.size + 1) (row_lt rr0)
  have hbb1 := hbb0.trans (hb.mono hbb0.size)
  have rr1 := row_later rr0 hb
  have sn1 : Since (w.heap.size + 1) _ v1 := Since.of_below hb
  clear hp hb
  go_wp2_with fail
  refine (HC2.out _).mono ?_
  rintro e v2 ⟨vs, rfl, hP, hb⟩
  obtain ⟨g21, g22, g23, g24, l21, l22, l23, l24, rfl, hp⟩ := hP
  have hp2 := PartAt.low (v := ⟨g21, g22, g23, g24, l21, l22, l23, l24⟩) hp (lo' := w.heap.size + 1) (row_lt rr1)
  have hbb2 := hbb1.trans (hb.mono hbb1.size)
  have rr2 := row_later rr1 hb
  have sn2 : Since (w.heap.size + 1) _ v2 := Since.of_below hb
  clear hp hb
  go_wp2_with fail
  refine (HC3.out _).mono ?_
  rintro e v3 ⟨vs, rfl, hP, hb⟩
  obtain ⟨g31, g32, g33, g34, l31, l32, l33, l34, rfl, hp⟩ := hP
  have hp3 := PartAt.low (v := ⟨g31, g32, g33, g34, l31, l32, l33, l34⟩) hp (lo' := w.heap.size + 1) (row_lt rr2)
  have hbb3 := hbb2.trans (hb.mono hbb2.size)
  have rr3 := row_later rr2 hb
  have sn3 : Since (w.heap.size + 1) _ v3 := Since.of_below hb
  clear hp hb
  have r5 := old_at rr3 (.cells #[.func (.func g01) #[] l01, .func (.func g02) #[] l02, .func (.func g03) #[] l03, .func (.func g04) #[] l04, .func (.func g11) #[] l11, .func (.func g12) #[] l12, .func (.func g13) #[] l13, .func (.func g14) #[] l14, .func (.func g21) #[] l21, .func (.func g22) #[] l22, .func (.func g23) #[] l23, .func (.func g24) #[] l24, .func (.func g31) #[] l31, .func (.func g32) #[] l32, .func (.func g33) #[] l33, .func (.func g34) #[] l34] 122)
  have hb5 : Below w.heap.size w (v3.alloc (.cells #[.func (.func g01) #[] l01, .func (.func g02) #[] l02, .func (.func g03) #[] l03, .func (.func g04) #[] l04, .func (.func g11) #[] l11, .func (.func g12) #[] l12, .func (.func g13) #[] l13, .func (.func g14) #[] l14, .func (.func g21) #[] l21, .func (.func g22) #[] l22, .func (.func g23) #[] l23, .func (.func g24) #[] l24, .func (.func g31) #[] l31, .func (.func g32) #[] l32, .func (.func g33) #[] l33, .func (.func g34) #[] l34] 122)) := hbb3.alloc hbb3.size _
  obtain ⟨m1, m2, m3⟩ := made3 r5 hb5 (zq _) (.slice (some ⟨w.heap.size + 1, 0, none⟩) 1 1) (.slice (some ⟨v3.heap.size, 0, none⟩) 4 4) (.func (.func 88) #[] #[])
  obtain ⟨z0, z1, z2, y0, y1, y2⟩ := row_tri r5
  obtain ⟨x0, x1, x2, _⟩ := row_tri m1
  have HL : Hid (LayIn (w.heap.size + 1) (v3.alloc (.cells #[.func (.func g01) #[] l01, .func (.func g02) #[] l02, .func (.func g03) #[] l03, .func (.func g04) #[] l04, .func (.func g11) #[] l11, .func (.func g12) #[] l12, .func (.func g13) #[] l13, .func (.func g14) #[] l14, .func (.func g21) #[] l21, .func (.func g22) #[] l22, .func (.func g23) #[] l23, .func (.func g24) #[] l24, .func (.func g31) #[] l31, .func (.func g32) #[] l32, .func (.func g33) #[] l33, .func (.func g34) #[] l34] 122)) ⟨[23],  [.num .addr 2 0 65535, .num .count 2 1 125, .num .to 2 0 65535, .words 121], .both⟩ (.agg #[.slice (some ⟨w.heap.size + 1, 0, none⟩) 1 1, .slice (some ⟨v3.heap.size, 0, none⟩) 4 4, .func (.func 88) #[] #[]])) := qh (by
    refine ⟨_, _, _, _, _, _, [⟨g01, g02, g03, g04, l01, l02, l03, l04⟩, ⟨g11, g12, g13, g14, l11, l12, l13, l14⟩, ⟨g21, g22, g23, g24, l21, l22, l23, l24⟩, ⟨g31, g32, g33, g34, l31, l32, l33, l34⟩], rfl, rfl, rfl, by omega, by unfold maxLen; omega, ?_, ?_, ?_, row_at v3 _ _ _ rfl, bothInside_ok, ?_⟩
    · exact ((((hl.since sn0 hfr).since sn1 hfr).since sn2 hfr).since sn3 hfr).since (since_alloc _ _ _) hfr
    · exact hfr
    · have := hbb3.size
      have := row_lt rr3
      omega
    · exact ⟨((((hp0.since sn1).since sn2).since sn3).since (since_alloc _ _ _)), (((hp1.since sn2).since sn3).since (since_alloc _ _ _)), ((hp2.since sn3).since (since_alloc _ _ _)), (hp3.since (since_alloc _ _ _)), trivial⟩)
  have HF := qh (HL.out.since m2)
  have HB := qh m3
  clear HL m1 m2 m3 r5 hb5 rr0 hbb0 hp0 sn0 rr1 hbb1 hp1 sn1 rr2 hbb2 hp2 sn2 rr3 hbb3 hp3 sn3
  go_wp2_with fail
  refine bodyPost_ret_by (v := .tuple #[.agg #[.slice (some ⟨w.heap.size + 1, 0, none⟩) 1 1, .slice (some ⟨v3.heap.size, 0, none⟩) 4 4, .func (.func 88) #[] #[]], .bool true]) (by simp [results, Tryz.f42, go_sem, x0, x1, x2]) rfl ?_
  exact ⟨HB.out, _, rfl, HF.out.low (by omega)⟩

set_option maxRecDepth 100000 in
set_option maxHeartbeats 1000000 in
theorem lay43 (w : World) : Calls Tryz.prog 42 #[.int .i64 43] w (LayPost w 43) := by
  have r0 := row_at w #[.slice none 0 0, .slice none 0 0, .nilFunc] 98 w.heap.size rfl
  have hown : ((w.alloc (.cells #[.slice none 0 0, .slice none 0 0, .nilFunc] 98)).alloc (.cells #[.int .u8 43] 5)).ownsRow (w.heap.size + 1) 5 1 (.slice (some ⟨w.heap.size + 1, 0, none⟩) 1 1) 1 (([43] : List UInt8).map u8v) := own_lit u8v (w.alloc (.cells #[.slice none 0 0, .slice none 0 0, .nilFunc] 98)) _ _ _ _ 1 [43] rfl rfl (by simp) (by simp) (by unfold maxLen; omega)
  have hown3 := hown.alloc (.cells #[.int .u8 14] 5)
  have hb3 : Below w.heap.size w (((w.alloc (.cells #[.slice none 0 0, .slice none 0 0, .nilFunc] 98)).alloc (.cells #[.int .u8 43] 5)).alloc (.cells #[.int .u8 14] 5)) := (((Below.refl _ w).alloc (zq _) _).alloc (by simp) _).alloc (by simp; omega) _
  have hl14 : Lies u8v (((w.alloc (.cells #[.slice none 0 0, .slice none 0 0, .nilFunc] 98)).alloc (.cells #[.int .u8 43] 5)).alloc (.cells #[.int .u8 14] 5)) (some ⟨w.heap.size + 1 + 1, 0, none⟩) [14] := lies_at ((w.alloc (.cells #[.slice none 0 0, .slice none 0 0, .nilFunc] 98)).alloc (.cells #[.int .u8 43] 5)) _ _ _ _ rfl (by simp)
  have hz3 : (((w.alloc (.cells #[.slice none 0 0, .slice none 0 0, .nilFunc] 98)).alloc (.cells #[.int .u8 43] 5)).alloc (.cells #[.int .u8 14] 5)).heap.size = w.heap.size + 1 + 1 + 1 := by simp
  have r3 := old_at (old_at r0 (.cells #[.int .u8 43] 5)) (.cells #[.int .u8 14] 5)
  have HC0 := qh (fun w => level_make w)
  have HC1 := qh (fun w => object_make w)
  go_enter Tryz.func42, Tryz.ntmps42
  go_wp2_with (at_builtin; go_must (refine wpList_append_lies kit8 one8 _ rfl (.tmp 74) (.tmp 75) rfl (w.heap.size + 1) _ 1 [43] rfl hown3 (some ⟨w.heap.size + 1 + 1, 0, none⟩) 1 1 [14] rfl rfl hl14 (by omega) (by unfold maxLen; omega) (by simp) ?_; intro A2 c2 w2 hown2 hg2 hb2))
  have hb2 : Below w.heap.size w w2 := hb3.trans (hb2.mono (by omega))
  have hz2 : w.heap.size + 1 + 1 ≤ w2.heap.size := by have := hg2.size; omega
  obtain ⟨q1, q2, q3, hl⟩ := own_at hown2
  have hfr : ∀ b o s, A2 = some ⟨b, o, s⟩ → w.heap.size + 1 ≤ b := fun b o s e => by subst e; exact (hown2.lt b rfl).1
  have r2 : w2.heap[w.heap.size]? = some (.cells #[.slice none 0 0, .slice none 0 0, .nilFunc] 98 (0, 0)) := (hg2.block _ (row_lt r3) (fun e => by have := (hown3.lt _ e.symm).1; omega)).trans r3
  have HR2 := qh r2
  clear r2 r3 r0
  refine (HC0.out _).mono ?_
  rintro e v0 ⟨vs, rfl, hP, hb⟩
  obtain ⟨g01, g02, g03, g04, l01, l02, l03, l04, rfl, hp⟩ := hP
  have hp0 := PartAt.low (v := ⟨g01, g02, g03, g04, l01, l02, l03, l04⟩) hp (lo' := w.heap.size + 1) (by omega)
  have hbb0 := hb2.trans (hb.mono hb2.size)
  have rr0 := row_later HR2.out hb
  have sn0 : Since (w.heap.size + 1) _ v0 := Since.of_below hb
  clear hp hb
  go_wp2_with fail
  refine (HC1.out _).mono ?_
  rintro e v1 ⟨vs, rfl, hP, hb⟩
  obtain ⟨g11, g12, g13, g14, l11, l12, l13, l14, rfl, hp⟩ := hP
  have hp1 := PartAt.low (v := ⟨g11, g12, g13, g14, l11, l12, l13, l14⟩) hp (lo' := w.heap.size + 1) (row_lt rr0)
  have hbb1 := hbb0.trans (hb.mono hbb0.size)
  have rr1 := row_later rr0 hb
  have sn1 : Since (w.heap.size + 1) _ v1 := Since.of_below hb
  clear hp hb
  have r5 := old_at rr1 (.cells #[.func (.func g01) #[] l01, .func (.func g02) #[] l02, .func (.func g03) #[] l03, .func (.func g04) #[] l04, .func (.func g11) #[] l11, .func (.func g12) #[] l12, .func (.func g13) #[] l13, .func (.func g14) #[] l14] 122)
  have hb5 : Below w.heap.size w (v1.alloc (.cells #[.func (.func g01) #[] l01, .func (.func g02) #[] l02, .func (.func g03) #[] l03, .func (.func g04) #[] l04, .func (.func g11) #[] l11, .func (.func g12) #[] l12, .func (.func g13) #[] l13, .func (.func g14) #[] l14] 122)) := hbb1.alloc hbb1.size _
  obtain ⟨m1, m2, m3⟩ := made3 r5 hb5 (zq _) (.slice (A2) 2 c2) (.slice (some ⟨v1.heap.size, 0, none⟩) 2 2) (.func (.func 91) #[] #[])
  obtain ⟨z0, z1, z2, y0, y1, y2⟩ := row_tri r5
  obtain ⟨x0, x1, x2, _⟩ := row_tri m1
  have HL : Hid (LayIn (w.heap.size + 1) (v1.alloc (.cells #[.func (.func g01) #[] l01, .func (.func g02) #[] l02, .func (.func g03) #[] l03, .func (.func g04) #[] l04, .func (.func g11) #[] l11, .func (.func g12) #[] l12, .func (.func g13) #[] l13, .func (.func g14) #[] l14] 122)) ⟨[43, 14],  [.num .count 1 1 4, .num .addr 1 0 255], .always⟩ (.agg #[.slice (A2) 2 c2, .slice (some ⟨v1.heap.size, 0, none⟩) 2 2, .func (.func 91) #[] #[]])) := qh (by
    refine ⟨_, _, _, _, _, _, [⟨g01, g02, g03, g04, l01, l02, l03, l04⟩, ⟨g11, g12, g13, g14, l11, l12, l13, l14⟩], rfl, rfl, rfl, q1, q2, ?_, ?_, ?_, row_at v1 _ _ _ rfl, always_ok, ?_⟩
    · exact ((hl.since sn0 hfr).since sn1 hfr).since (since_alloc _ _ _) hfr
    · exact hfr
    · have := hbb1.size
      have := row_lt rr1
      omega
    · exact ⟨((hp0.since sn1).since (since_alloc _ _ _)), (hp1.since (since_alloc _ _ _)), trivial⟩)
  have HF := qh (HL.out.since m2)
  have HB := qh m3
  clear HL m1 m2 m3 r5 hb5 rr0 hbb0 hp0 sn0 rr1 hbb1 hp1 sn1
  go_wp2_with fail
  refine bodyPost_ret_by (v := .tuple #[.agg #[.slice (A2) 2 c2, .slice (some ⟨v1.heap.size, 0, none⟩) 2 2, .func (.func 91) #[] #[]], .bool true]) (by simp [results, Tryz.f42, go_sem, x0, x1, x2]) rfl ?_
  exact ⟨HB.out, _, rfl, HF.out.low (by omega)⟩
end Go.Proofs.YtlgmjnjhdamknaaGreat
