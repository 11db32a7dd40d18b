/-
  What the landed mbap.Read leaves.
-/
import Derived.Test.YtophchhienlafaaSize
import Derived.Test.YtophchhienlafaaRread
import Derived.Deep.OwnRows
import Derived.Laws.CopyOwn
import Derived.Laws.OwnMore
namespace Go.Proofs.Ytophchhienlafaa
open Go.RowKit

theorem zeros_eq (n : Nat) : madeCells #[Value.int .u8 0] n = (List.replicate n (Value.int .u8 0)).toArray := by
  rw [← toList_madeCells_one]
theorem lies_block {w : World} {g n : Nat} {t : TypeId} {cs : List Value} {l : List UInt8} (hg : w.heap[g]? = some (.cells cs.toArray t (0, 0))) (_ : l.length = n) (h : cs = l.map u8v) : Lies u8v w (some ⟨g, 0, none⟩) l := by
  subst h
  refine Lies.of_row fun j hj => ?_
  rw [cell_of_row w g (0 + j) _ _ _ hg, Nat.zero_add]
  simp [List.getElem?_eq_getElem hj]
theorem cut_cells {w : World} {b1 o1 : Nat} {l : List UInt8} {cs : List Value} (hL : Lies u8v w (some ⟨b1, o1, none⟩) l) (hcs : cs = l.map u8v) : ∀ j v, cs[j]? = some v → w.cell? ((⟨b1, o1, none⟩ : Addr).add j) = some v := by
  subst hcs
  exact hL.cells_add
theorem splice_whole {α : Type} (L cs : List α) (h : cs.length = L.length) : splice L 0 cs = cs := by simp [splice, h]
theorem map_one {cs : List Value} {l : List UInt8} (h : cs = l.map u8v) : ∀ v ∈ cs, v.oneCell' = true := by
  subst h
  intro v hv
  obtain ⟨x, _, rfl⟩ := List.mem_map.1 hv
  rfl

set_option maxRecDepth 100000 in
set_option maxHeartbeats 400000 in
theorem read4_bad (A : Option Addr) (n c : Nat) (b : List UInt8) (hn : b.length = n) (hnc : n ≤ c) (w : World) (hb : Lies u8v w A b) (h : Mb.codeB b ≠ 0) :
    Calls Try.prog 22 #[.slice A n c] w (ReadPost w b) := by
  obtain ⟨k, hk⟩ : ∃ k, Mb.codeB b = k := ⟨_, rfl⟩
  have hk0 : k ≠ 0 := by rw [← hk]; exact h
  have HC := Lib.hid hk
  have HS := Lib.hid (Mb.size_bad b h)
  have hne : ((k : Int) != 0) = true := by rw [bne_iff_ne]; omega
  have HN := Lib.hid hn
  clear hk h hn
  go_enter Try.func22, Try.ntmps22
  go_wp2_with fail
  refine (size_any A n c b HN.out hnc _ (hb.alloc _)).mono ?_
  rintro e w2 ⟨rfl, hbe2⟩
  rw [HC.out, HS.out]
  have hbw2 := ((Below.refl _ w).alloc (Nat.le_refl _) _).trans (hbe2.mono (by simp))
  have hrow : w2.heap[w.heap.size]? = some (.cells #[.int .u16 0, .int .u8 0, .slice none 0 0] 45 (0, 0)) := (hbe2.block _ (by simp)).trans (heap_alloc_new w _)
  obtain ⟨hr0, hr1, hr2⟩ := row_three hrow
  obtain ⟨hf0, hf1, hf2⟩ := row_three_free hrow
  clear hrow hbe2 hb
  go_wp2
  refine bodyPost_ret_by (v := .tuple #[.agg #[.int .u16 0, .int .u8 0, .slice none 0 0], .int .i64 0, .int .i64 (k : Int)]) (by simp [results, Try.f22, go_sem, hr0, hr1, hr2]) rfl ?_
  exact ReadPost.bad _ _ _ k HC.out hk0 (below_three hbw2 (Nat.le_refl _) _ _ _)

set_option maxRecDepth 100000 in
set_option maxHeartbeats 1000000 in
theorem read4_good (A : Option Addr) (n c : Nat) (b : List UInt8) (hn : b.length = n) (hnc : n ≤ c) (w : World) (hb : Lies u8v w A b) (h : Mb.codeB b = 0) :
    Calls Try.prog 22 #[.slice A n c] w (ReadPost w b) := by
  obtain ⟨_, _, hf1, hf2, hs⟩ := Mb.codeB_zero h
  obtain ⟨z, hz⟩ : ∃ z, 6 + Mb.follow b = z := ⟨_, rfl⟩
  have HC := Lib.hid h
  have HS : Hid (Mb.size b = z) := Lib.hid (by rw [Mb.size_good b h, hz])
  have HZ := Lib.hid hz
  have HN := Lib.hid hn
  have hz1 : 8 ≤ z := by omega
  have hz2 : z ≤ 260 := by omega
  have hz3 : z ≤ n := by omega
  have hz4 : z ≤ c := by omega
  have hc7 : ¬ c = 7 := by omega
  have i6 : (6 : Int) < (n : Int) := by omega
  obtain ⟨b1, o1, rfl, hlt1, hc1⟩ := hb.at_ (by omega)
  have hc6 := lies_get hb 6 (by omega)
  have HL : Hid (Lies u8v w (some ⟨b1, o1 + 7, none⟩) ((b.drop 7).take (z - 7))) := Lib.hid ((hb.drop 7).take (z - 7))
  have HLN : Hid (((b.drop 7).take (z - 7)).length = z - 7) := Lib.hid (by rw [List.length_take, List.length_drop]; omega)
  obtain ⟨x6, hx6⟩ : ∃ x, b.getD 6 0 = x := ⟨_, rfl⟩
  rw [hx6] at hc6
  have HX := Lib.hid hx6
  have HB := Lib.hid hb
  obtain ⟨i0, hi0, hi1, hi2, hi3⟩ := info_parts kit8.hi
  clear hx6 h hn hf1 hf2 hs hz hc1 hb
  go_enter Try.func22, Try.ntmps22
  go_wp2_with fail
  refine (size_any _ n c b HN.out hnc _ (HB.out.alloc _)).mono ?_
  rintro e w2 ⟨rfl, hbe2⟩
  rw [HC.out, HS.out]
  have hbw2 := ((Below.refl _ w).alloc (Nat.le_refl _) _).trans (hbe2.mono (by simp))
  go_wp2_with fail
  refine (wordAt0_any _ n c b HN.out hnc (by omega) _ ((HB.out.alloc _).below hbe2 (Nat.le_refl _))).mono ?_
  rintro e w3 ⟨rfl, hbe3⟩
  have hbw3 := hbw2.trans (hbe3.mono hbw2.size)
  have hrow : w3.heap[w.heap.size]? = some (.cells #[.int .u16 0, .int .u8 0, .slice none 0 0] 45 (0, 0)) := (hbe3.block _ (by have := hbe2.size; simp at this; omega)).trans ((hbe2.block _ (by simp)).trans (heap_alloc_new w _))
  have hL3 := Lib.hid (HL.out.below hbw3 (Nat.le_refl _))
  have hc63 := (hbw3.cell (p := ⟨b1, o1 + 6, none⟩) hlt1).trans hc6
  have hsz3 := hbw3.size
  have hsz3' : w.heap.size < w3.heap.size := by have := hbe2.size; have := hbe3.size; simp at *; omega
  clear hbe2 hbe3 hbw2 HL hc6
  obtain ⟨T, hT⟩ : ∃ T, Word.word (b.getD 0 0) (b.getD 1 0) = T := ⟨_, rfl⟩
  rw [hT]
  have HT := Lib.hid hT
  clear hT
  have hw7 : IntKind.i64.wrap ((z : Int) - 7) = ((z - 7 : Nat) : Int) := by rw [IntKind.wrap_i64]; omega
  obtain ⟨cs, hcsm⟩ : ∃ cs, cs = ((b.drop 7).take (z - 7)).map u8v := ⟨_, rfl⟩
  have hcs : cs.length = z - 7 := by rw [hcsm, List.length_map]; exact HLN.out
  have HM := Lib.hid hcsm
  have HM1 : Hid (∀ v ∈ cs, v.oneCell' = true) := Lib.hid (map_one hcsm)
  have hi8 : (Try.prog.info? 5).map (·.size) = some 1 := by rw [hi0]; simp [hi2]
  have HG : Hid ((w3.alloc (.cells (madeCells #[Value.int .u8 0] (z - 7)) 5)).heap[w3.heap.size]? = some (.cells (List.replicate (z - 7) (Value.int .u8 0)).toArray 5 (0, 0))) := Lib.hid (by rw [← zeros_eq]; exact heap_alloc_new w3 _)
  clear hcsm
  go_wp2_with (first
    | (at_make; go_must (refine wpList_make_row _ rfl _ _ 24 rfl 5 i0 (.int .u8 0) kit8.ht hi0 hi1 hi2 rfl .i64 .i64 (z - 7) rfl rfl (by rw [hi3]; omega) (by omega) ?_))
    | ((with_reducible show wpList _ _ _ (⟨some 31, _, _, _, _, _⟩ :: _) _ _); go_must (refine wpList_copy_splice rfl (.tmp 27) (.tmp 30) 24 24 rfl 5 kit8.ht hi8 (some ⟨w3.heap.size, 0, none⟩) (some ⟨b1, o1 + 7, none⟩) (z - 7) (z - 7) (z - 7) (c - 7) (by rfl) (by rfl) w3.heap.size 0 (List.replicate (z - 7) (Value.int .u8 0)) 5 HG.out cs (by rw [hcs]; exact (Nat.min_self _).symm) (fun _ => ⟨rfl, _, rfl, cut_cells (hL3.out.alloc _) HM.out⟩) (by rw [hcs, List.length_replicate]; omega) HM1.out w3.heap.size w3 ((Below.refl _ w3).alloc (Nat.le_refl _) _) (Nat.le_refl _) ?_); intro w4 HG4 hb4; have hc64 := (hb4.cell (p := ⟨b1, o1 + 6, none⟩) (by show b1 < _; omega)).trans hc63; have hrow4 := (hb4.block _ hsz3').trans hrow; obtain ⟨hr0, hr1, hr2⟩ := row_three hrow4; obtain ⟨hf0, hf1, hf2⟩ := row_three_free hrow4))
  obtain ⟨hs0, hs1, hs2⟩ := row_three (three_stored hrow4 (.int .u16 (T.toNat : Int)) (.int .u8 (x6.toNat : Int)) (.slice (some ⟨w3.heap.size, 0, none⟩) (z - 7) (z - 7)))
  refine bodyPost_ret_by (v := .tuple #[.agg #[u16v T, u8v x6, .slice (some ⟨w3.heap.size, 0, none⟩) (z - 7) (z - 7)], .int .i64 (z : Int), .int .i64 0]) (by simp [results, Try.f22, go_sem, hs0, hs1, hs2]) rfl ?_
  have hE : Mb.follow b - 1 = z - 7 := by have := HZ.out; omega
  have hy : Lies u8v w4 (some ⟨w3.heap.size, 0, none⟩) ((b.drop 7).take (z - 7)) := lies_block HG4.out HLN.out (by rw [← HM.out, splice_whole _ _ (by rw [hcs, List.length_replicate])])
  refine ReadPost.good _ _ _ _ _ _ _ _ _ HC.out HT.out HX.out HZ.out hE (Nat.le_refl _) (by unfold maxLen; omega) ?_ (below_three (hbw3.trans (hb4.mono hsz3)) (Nat.le_refl _) _ _ _) (fun b' o' s' e _ => by cases e; exact hsz3)
  rw [hE]
  exact lies_three hy (fun b' o' s' e _ => by cases e; omega) _ _ _

theorem read4_any (A : Option Addr) (n c : Nat) (b : List UInt8) (hn : b.length = n) (hnc : n ≤ c) (_ : n ≤ 60000) (w : World) (hb : Lies u8v w A b) :
    Calls Try.prog 22 #[.slice A n c] w (ReadPost w b) := by
  by_cases h : Mb.codeB b = 0
  · exact read4_good A n c b hn hnc w hb h
  · exact read4_bad A n c b hn hnc w hb h
end Go.Proofs.Ytophchhienlafaa
