
/- A part of the proof of the law MasterDoes. -/
import Derived.Test.YtlgmjnjhdamknaaGreatMem
import Derived.Test.YtlgmjnjhdamknaaGreatLr
import Derived.Laws.EntriesVeiled
namespace Go.Proofs.YtlgmjnjhdamknaaGreat
open Go.RowKit Go.Shelf

set_option maxRecDepth 100000 in
set_option maxHeartbeats 400000 in
theorem numUFits (f : UF) (gof : Nat) (O : OfOK gof f.ix) (b0 b2 b3 : Nat) (W : World) (c0 : W.cell? ⟨b0, 0, none⟩ = some (.func (.func gof) #[] #[])) (c2 : W.cell? ⟨b2, 0, none⟩ = some (.int .i64 0)) (c3 : W.cell? ⟨b3, 0, none⟩ = some (.int .i64 65535)) (a : Ask) (h k : Option Addr × Nat × Nat) :
    Calls Tryz.prog 162 #[askV a h k, .pointer (some ⟨b0, 0, none⟩), .pointer (some ⟨b2, 0, none⟩), .pointer (some ⟨b3, 0, none⟩)] W fun e w' => e = .returned (.bool true) ∧ Below W.heap.size W w' := by
  have eg := O.en
  have hO := O.ca
  have hc := box_cell W (askCells a h k) 40 _ _ (UF.cell f a h k)
  unfold askCells u16v at hc
  have hx := (f.get a).toNat_lt
  generalize (f.get a).toNat = n at *
  generalize f.ix = i at *
  have l0 := World.block_lt_of_cell? _ _ c0
  have l2 := World.block_lt_of_cell? _ _ c2
  have l3 := World.block_lt_of_cell? _ _ c3
  have i6 : IntKind.i64.wrap (n : Int) = (n : Int) := by rw [IntKind.wrap_i64]; omega
  have g1 : (0 : Int) ≤ (n : Int) := by omega
  have g2 : (n : Int) ≤ 65535 := by omega
  unfold Enters at eg
  rw [askV_eq]
  go_enter Tryz.func162, Tryz.ntmps162
  go_wp2_with (go_at_fn gof; refine (hO _ _).mono ?_; rintro e w' ⟨rfl, rfl⟩)
  go_ret
  exact ⟨rfl, (Below.refl _ _).alloc (zq _) _⟩

structure Since (lo : Nat) (w w' : World) : Prop where
  size : w.heap.size ≤ w'.heap.size
  block : ∀ j, lo ≤ j → j < w.heap.size → w'.heap[j]? = w.heap[j]?
theorem Since.refl (lo : Nat) (w : World) : Since lo w w := ⟨zq _, fun _ _ _ => rfl⟩
theorem Since.trans {lo : Nat} {a b c : World} (h : Since lo a b) (k : Since lo b c) : Since lo a c := ⟨Nat.le_trans h.size k.size, fun j h1 h2 => (k.block j h1 (Nat.lt_of_lt_of_le h2 h.size)).trans (h.block j h1 h2)⟩
theorem Since.mono {lo lo' : Nat} {a b : World} (h : Since lo a b) (hl : lo ≤ lo') : Since lo' a b := ⟨h.size, fun j h1 h2 => h.block j (Nat.le_trans hl h1) h2⟩
theorem Since.of_below {lo : Nat} {a b : World} (h : Below a.heap.size a b) : Since lo a b := ⟨h.size, fun j _ h2 => h.block j h2⟩
theorem Since.cell {lo : Nat} {a b : World} (h : Since lo a b) {p : Addr} {v : Value} (hc : a.cell? p = some v) (hl : lo ≤ p.block) : b.cell? p = some v :=
  (World.cell?_of_block (w := a) (h.block p.block hl (World.block_lt_of_cell? _ _ hc))).trans hc
def PartIn (lo : Nat) (w : World) (p : PK) (vs : Array Value) : Prop := ∃ g1 g2 g3 g4 l1 l2 l3 l4, vs = #[.func (.func g1) #[] l1, .func (.func g2) #[] l2, .func (.func g3) #[] l3, .func (.func g4) #[] l4] ∧ ∀ w0, Since lo w w0 → PartOK w0 p g1 g2 g3 g4 l1 l2 l3 l4
theorem PartIn.since {lo : Nat} {w w' : World} {p : PK} {vs : Array Value} (h : PartIn lo w p vs) (hb : Since lo w w') : PartIn lo w' p vs := by
  obtain ⟨g1, g2, g3, g4, l1, l2, l3, l4, e, hp⟩ := h
  exact ⟨g1, g2, g3, g4, l1, l2, l3, l4, e, fun w0 h0 => hp w0 (hb.trans h0)⟩
theorem PartIn.low {lo lo' : Nat} {w : World} {p : PK} {vs : Array Value} (h : PartIn lo w p vs) (hl : lo' ≤ lo) : PartIn lo' w p vs := by
  obtain ⟨g1, g2, g3, g4, l1, l2, l3, l4, e, hp⟩ := h
  exact ⟨g1, g2, g3, g4, l1, l2, l3, l4, e, fun w0 h0 => hp w0 (h0.mono hl)⟩
def PartPost (w : World) (p : PK) (e : Ending) (w' : World) : Prop := ∃ vs, e = .returned (.agg vs) ∧ PartIn w.heap.size w' p vs ∧ Below w.heap.size w w'

theorem IF.get_u16 {f : IF} {a : Ask} (h0 : 0 ≤ f.get a) (h1 : f.get a ≤ 65535) : f.get a = ((UInt16.ofNat (f.get a).toNat).toNat : Int) := by
  rw [UInt16.toNat_ofNat']
  omega
theorem numI_in (f : IF) (gof : Nat) (O : OfOK gof f.ix) (sz : Nat) (lo hi : Int) (fine : (PK.num f sz lo hi).Fine) (lw : Nat) (b0 b1 b2 b3 : Nat) (w : World) (c0 : w.cell? ⟨b0, 0, none⟩ = some (.func (.func gof) #[] #[])) (c1 : w.cell? ⟨b1, 0, none⟩ = some (.int .i64 (sz : Int))) (c2 : w.cell? ⟨b2, 0, none⟩ = some (.int .i64 lo)) (c3 : w.cell? ⟨b3, 0, none⟩ = some (.int .i64 hi)) (z0 : lw ≤ b0) (z1 : lw ≤ b1) (z2 : lw ≤ b2) (z3 : lw ≤ b3) :
    PartIn lw w (.num f sz lo hi) #[.func (.func 147) #[] #[.pointer (some ⟨b0, 0, none⟩), .pointer (some ⟨b2, 0, none⟩), .pointer (some ⟨b3, 0, none⟩)], .func (.func 148) #[] #[.pointer (some ⟨b0, 0, none⟩), .pointer (some ⟨b1, 0, none⟩)], .func (.func 149) #[] #[.pointer (some ⟨b1, 0, none⟩), .pointer (some ⟨b0, 0, none⟩)], .func (.func 150) #[] #[.pointer (some ⟨b0, 0, none⟩)]] := by
  refine ⟨_, _, _, _, _, _, _, _, rfl, fun w0 h0 => ?_⟩
  have k0 := h0.cell c0 z0
  have k1 := h0.cell c1 z1
  have k2 := h0.cell c2 z2
  have k3 := h0.cell c3 z3
  have m0 : b0 < w0.heap.size := World.block_lt_of_cell? _ _ k0
  have m1 : b1 < w0.heap.size := World.block_lt_of_cell? _ _ k1
  refine ⟨fine, enters_of Tryz.func147 (by kernel_rfl) rfl, enters_of Tryz.func148 (by kernel_rfl) rfl, enters_of Tryz.func149 (by kernel_rfl) rfl, enters_of Tryz.func150 (by kernel_rfl) rfl, fun W hW a h k _ => ?_, fun Wa W hWa hW a h k ha hf B v n xs ho hB1 hB2 hn => ?_, fun W hW A n c b hn hnc hcm hm hb q S a h k _ x => ?_, fun W hW q S a h k _ x => ?_⟩
  · exact numFits f gof O b0 b2 b3 lo hi W (cell_later hW k0) (cell_later hW k2) (cell_later hW k3) a h k
  · have e0 := cell_later hWa k0
    have e1 := cell_later hWa k1
    have z := hWa.size
    unfold PK.fits at hf
    simp only [Bool.and_eq_true, decide_eq_true_eq] at hf
    have hx := IF.get_u16 (f := f) (a := a) (by have := fine.2.1; omega) (by have := fine.2.2; omega)
    refine (numILay f gof O b0 b1 sz fine.1 W (cell_later hW e0) (cell_later hW e1) a h k _ hx B v n xs ho hB2 (by omega) (by omega) (by omega)).mono ?_
    rintro e w' ⟨A, c, rfl, g1, g2⟩
    exact ⟨A, _, c, rfl, g1, g2⟩
  · exact numIRead f gof O b0 b1 sz fine.1 lo hi w0 W (cell_later hW k0) (cell_later hW k1) hW A n c b hn hnc hcm hm hb q a h k x
  · refine (numIDrop f gof O b0 W (cell_later hW k0) q a h k x).mono ?_
    rintro e w' ⟨hv, g1, g2⟩
    exact ⟨hv, h, k, g1, g2⟩
theorem numU_in (f : UF) (gof : Nat) (O : OfOK gof f.ix) (lw : Nat) (b0 b1 b2 b3 : Nat) (w : World) (c0 : w.cell? ⟨b0, 0, none⟩ = some (.func (.func gof) #[] #[])) (c1 : w.cell? ⟨b1, 0, none⟩ = some (.int .i64 2)) (c2 : w.cell? ⟨b2, 0, none⟩ = some (.int .i64 0)) (c3 : w.cell? ⟨b3, 0, none⟩ = some (.int .i64 65535)) (z0 : lw ≤ b0) (z1 : lw ≤ b1) (z2 : lw ≤ b2) (z3 : lw ≤ b3) :
    PartIn lw w (.mask f) #[.func (.func 162) #[] #[.pointer (some ⟨b0, 0, none⟩), .pointer (some ⟨b2, 0, none⟩), .pointer (some ⟨b3, 0, none⟩)], .func (.func 163) #[] #[.pointer (some ⟨b0, 0, none⟩), .pointer (some ⟨b1, 0, none⟩)], .func (.func 164) #[] #[.pointer (some ⟨b1, 0, none⟩), .pointer (some ⟨b0, 0, none⟩)], .func (.func 165) #[] #[.pointer (some ⟨b0, 0, none⟩)]] := by
  refine ⟨_, _, _, _, _, _, _, _, rfl, fun w0 h0 => ?_⟩
  have k0 := h0.cell c0 z0
  have k1 := h0.cell c1 z1
  have k2 := h0.cell c2 z2
  have k3 := h0.cell c3 z3
  have m0 : b0 < w0.heap.size := World.block_lt_of_cell? _ _ k0
  have m1 : b1 < w0.heap.size := World.block_lt_of_cell? _ _ k1
  refine ⟨trivial, enters_of Tryz.func162 (by kernel_rfl) rfl, enters_of Tryz.func163 (by kernel_rfl) rfl, enters_of Tryz.func164 (by kernel_rfl) rfl, enters_of Tryz.func165 (by kernel_rfl) rfl, fun W hW a h k _ => ?_, fun Wa W hWa hW a h k ha hf B v n xs ho hB1 hB2 hn => ?_, fun W hW A n c b hn hnc hcm hm hb q S a h k _ x => ?_, fun W hW q S a h k _ x => ?_⟩
  · exact numUFits f gof O b0 b2 b3 W (cell_later hW k0) (cell_later hW k2) (cell_later hW k3) a h k
  · have e0 := cell_later hWa k0
    have e1 := cell_later hWa k1
    have z := hWa.size
    refine (numULay f gof O b0 b1 2 (.inr rfl) W (cell_later hW e0) (cell_later hW e1) a h k _ rfl B v n xs ho hB2 (by omega) (by omega) (by omega)).mono ?_
    rintro e w' ⟨A, c, rfl, g1, g2⟩
    exact ⟨A, _, c, rfl, g1, g2⟩
  · exact numURead f gof O b0 b1 w0 W (cell_later hW k0) (cell_later hW k1) hW A n c b hn hnc hcm hm hb q a h k x
  · refine (numUDrop f gof O b0 W (cell_later hW k0) q a h k x).mono ?_
    rintro e w' ⟨hv, g1, g2⟩
    exact ⟨hv, h, k, g1, g2⟩


theorem box_at {w : World} {g : Nat} {v : Value} {t : TypeId} (h : w.heap[g]? = some (.cells #[v] t (0, 0))) : w.cell? ⟨g, 0, none⟩ = some v := by
  simp [World.cell?, h]
theorem new_at (w : World) (o : Obj) (g : Nat) (hg : w.heap.size = g) : (w.alloc o).heap[g]? = some o := by
  subst hg
  exact heap_alloc_new w o
theorem old_at {w : World} {g : Nat} {o : Obj} (h : w.heap[g]? = some o) (o' : Obj) : (w.alloc o').heap[g]? = some o := row_later h ((Below.refl _ _).alloc (zq _) o')
theorem chain5 (w : World) (o0 o1 o2 o3 o4 : Obj) :
    (((((w.alloc o0).alloc o1).alloc o2).alloc o3).alloc o4).heap[w.heap.size]? = some o0 ∧ (((((w.alloc o0).alloc o1).alloc o2).alloc o3).alloc o4).heap[w.heap.size + 1]? = some o1 ∧ (((((w.alloc o0).alloc o1).alloc o2).alloc o3).alloc o4).heap[w.heap.size + 1 + 1]? = some o2 ∧ (((((w.alloc o0).alloc o1).alloc o2).alloc o3).alloc o4).heap[w.heap.size + 1 + 1 + 1]? = some o3 ∧ Below w.heap.size w (((((w.alloc o0).alloc o1).alloc o2).alloc o3).alloc o4) := by
  refine ⟨old_at (old_at (old_at (old_at (new_at w o0 _ rfl) o1) o2) o3) o4, old_at (old_at (old_at (new_at _ o1 _ (by simp)) o2) o3) o4, old_at (old_at (new_at _ o2 _ (by simp)) o3) o4, old_at (new_at _ o3 _ (by simp)) o4, (((((Below.refl _ w).alloc (by simp) _).alloc (by simp) _).alloc (by simp; omega) _).alloc (by simp; omega) _).alloc (by simp; omega) _⟩
theorem chain4 (w : World) (o0 o1 o2 o4 : Obj) :
    ((((w.alloc o0).alloc o1).alloc o2).alloc o4).heap[w.heap.size]? = some o0 ∧ ((((w.alloc o0).alloc o1).alloc o2).alloc o4).heap[w.heap.size + 1]? = some o1 ∧ ((((w.alloc o0).alloc o1).alloc o2).alloc o4).heap[w.heap.size + 1 + 1]? = some o2 ∧ Below w.heap.size w ((((w.alloc o0).alloc o1).alloc o2).alloc o4) := by
  refine ⟨old_at (old_at (old_at (new_at w o0 _ rfl) o1) o2) o4, old_at (old_at (new_at _ o1 _ (by simp)) o2) o4, old_at (new_at _ o2 _ (by simp)) o4, ((((Below.refl _ w).alloc (by simp) _).alloc (by simp) _).alloc (by simp; omega) _).alloc (by simp; omega) _⟩

set_option maxRecDepth 100000 in
set_option maxHeartbeats 400000 in
theorem numI_make (f : IF) (gof : Nat) (O : OfOK gof f.ix) (sz : Nat) (lo hi : Int) (fine : (PK.num f sz lo hi).Fine) (w : World) :
    Calls Tryz.prog 110 #[.func (.func gof) #[] #[], .int .i64 (sz : Int), .int .i64 lo, .int .i64 hi] w (PartPost w (.num f sz lo hi)) := by
  obtain ⟨h0, h1, h2, h3, hb⟩ := chain5 w (.cells #[.func (.func gof) #[] #[]] 157) (.cells #[.int .i64 (sz : Int)] 3) (.cells #[.int .i64 lo] 3) (.cells #[.int .i64 hi] 3) (.cells #[.func (.func 147) #[] #[.pointer (some ⟨w.heap.size, 0, none⟩), .pointer (some ⟨w.heap.size + 1 + 1, 0, none⟩), .pointer (some ⟨w.heap.size + 1 + 1 + 1, 0, none⟩)], .func (.func 148) #[] #[.pointer (some ⟨w.heap.size, 0, none⟩), .pointer (some ⟨w.heap.size + 1, 0, none⟩)], .func (.func 149) #[] #[.pointer (some ⟨w.heap.size + 1, 0, none⟩), .pointer (some ⟨w.heap.size, 0, none⟩)], .func (.func 150) #[] #[.pointer (some ⟨w.heap.size, 0, none⟩)]] 122)
  have HI := qh (numI_in f gof O sz lo hi fine w.heap.size _ _ _ _ _ (box_at h0) (box_at h1) (box_at h2) (box_at h3) (by omega) (by omega) (by omega) (by omega))
  have HB := qh hb
  clear hb h0 h1 h2 h3
  go_enter Tryz.func110, Tryz.ntmps110
  go_wp2_with fail
  refine bodyPost_ret_by (v := .agg #[.func (.func 147) #[] #[.pointer (some ⟨w.heap.size, 0, none⟩), .pointer (some ⟨w.heap.size + 1 + 1, 0, none⟩), .pointer (some ⟨w.heap.size + 1 + 1 + 1, 0, none⟩)], .func (.func 148) #[] #[.pointer (some ⟨w.heap.size, 0, none⟩), .pointer (some ⟨w.heap.size + 1, 0, none⟩)], .func (.func 149) #[] #[.pointer (some ⟨w.heap.size + 1, 0, none⟩), .pointer (some ⟨w.heap.size, 0, none⟩)], .func (.func 150) #[] #[.pointer (some ⟨w.heap.size, 0, none⟩)]]) (by simp [results, Tryz.f110, go_sem]) rfl ?_
  exact ⟨_, rfl, HI.out, HB.out⟩

set_option maxRecDepth 100000 in
set_option maxHeartbeats 400000 in
theorem numU_make (f : UF) (gof : Nat) (O : OfOK gof f.ix) (w : World) :
    Calls Tryz.prog 135 #[.func (.func gof) #[] #[], .int .i64 2, .int .i64 0, .int .i64 65535] w (PartPost w (.mask f)) := by
  obtain ⟨h0, h1, h2, h3, hb⟩ := chain5 w (.cells #[.func (.func gof) #[] #[]] 137) (.cells #[.int .i64 2] 3) (.cells #[.int .i64 0] 3) (.cells #[.int .i64 65535] 3) (.cells #[.func (.func 162) #[] #[.pointer (some ⟨w.heap.size, 0, none⟩), .pointer (some ⟨w.heap.size + 1 + 1, 0, none⟩), .pointer (some ⟨w.heap.size + 1 + 1 + 1, 0, none⟩)], .func (.func 163) #[] #[.pointer (some ⟨w.heap.size, 0, none⟩), .pointer (some ⟨w.heap.size + 1, 0, none⟩)], .func (.func 164) #[] #[.pointer (some ⟨w.heap.size + 1, 0, none⟩), .pointer (some ⟨w.heap.size, 0, none⟩)], .func (.func 165) #[] #[.pointer (some ⟨w.heap.size, 0, none⟩)]] 122)
  have HI := qh (numU_in f gof O w.heap.size _ _ _ _ _ (box_at h0) (box_at h1) (box_at h2) (box_at h3) (by omega) (by omega) (by omega) (by omega))
  have HB := qh hb
  clear hb h0 h1 h2 h3
  go_enter Tryz.func135, Tryz.ntmps135
  go_wp2_with fail
  refine bodyPost_ret_by (v := .agg #[.func (.func 162) #[] #[.pointer (some ⟨w.heap.size, 0, none⟩), .pointer (some ⟨w.heap.size + 1 + 1, 0, none⟩), .pointer (some ⟨w.heap.size + 1 + 1 + 1, 0, none⟩)], .func (.func 163) #[] #[.pointer (some ⟨w.heap.size, 0, none⟩), .pointer (some ⟨w.heap.size + 1, 0, none⟩)], .func (.func 164) #[] #[.pointer (some ⟨w.heap.size + 1, 0, none⟩), .pointer (some ⟨w.heap.size, 0, none⟩)], .func (.func 165) #[] #[.pointer (some ⟨w.heap.size, 0, none⟩)]]) (by simp [results, Tryz.f135, go_sem]) rfl ?_
  exact ⟨_, rfl, HI.out, HB.out⟩

theorem siB_in (lo : Nat) (b0 b1 b2 : Nat) (w : World) (c0 : w.cell? ⟨b0, 0, none⟩ = some (.func (.func 70) #[] #[])) (c1 : w.cell? ⟨b1, 0, none⟩ = some (.func (.func 71) #[] #[])) (c2 : w.cell? ⟨b2, 0, none⟩ = some (.func (.func 72) #[] #[])) (z0 : lo ≤ b0) (z1 : lo ≤ b1) (z2 : lo ≤ b2) :
    PartIn lo w PK.bit #[.func (.func 114) #[] #[.pointer (some ⟨b0, 0, none⟩)], .func (.func 115) #[] #[.pointer (some ⟨b1, 0, none⟩), .pointer (some ⟨b0, 0, none⟩)], .func (.func 117) #[] #[.pointer (some ⟨b2, 0, none⟩), .pointer (some ⟨b0, 0, none⟩)], .func (.func 119) #[] #[.pointer (some ⟨b0, 0, none⟩)]] := by
  refine ⟨_, _, _, _, _, _, _, _, rfl, fun w0 h0 => ?_⟩
  have k0 := h0.cell c0 z0
  have k1 := h0.cell c1 z1
  have k2 := h0.cell c2 z2
  have m0 : b0 < w0.heap.size := World.block_lt_of_cell? _ _ k0
  have m1 : b1 < w0.heap.size := World.block_lt_of_cell? _ _ k1
  refine ⟨trivial, enters_of Tryz.func114 (by kernel_rfl) rfl, enters_of Tryz.func115 (by kernel_rfl) rfl, enters_of Tryz.func117 (by kernel_rfl) rfl, enters_of Tryz.func119 (by kernel_rfl) rfl, fun W hW a h k ha => ?_, fun Wa W hWa hW a h k ha hf B v n xs ho hB1 hB2 hn => ?_, fun W hW A n c b hn hnc hcm hm hb q S a h k _ x => ?_, fun W hW q S a h k _ x => ?_⟩
  · exact siBFits b0 W (cell_later hW k0) a h k ha
  · have e0 := cell_later hWa k0
    have e1 := cell_later hWa k1
    have z := hWa.size
    unfold PK.fits at hf
    simp only [beq_iff_eq] at hf
    obtain ⟨y, hy⟩ := List.length_eq_one_iff.1 hf
    refine (siBLay b0 b1 Wa W (cell_later hW e0) (cell_later hW e1) a h k hW ha y hy B v n xs ho hB2 hB1 (by omega) (by omega) (by omega)).mono ?_
    rintro e w' ⟨A, c, rfl, g1, g2⟩
    refine ⟨A, _, c, rfl, ?_, g2⟩
    unfold PK.out
    rw [hy]
    exact g1
  · refine siBRead b0 b2 w0 W (cell_later hW k0) (cell_later hW k2) hW A n c b hn hnc hcm hm hb q a h k x (cutN b 2 == 65280 || cutN b 2 == 0) (cutN b 2 == 65280) false (fun W => ⟨_, getBit6 0 W⟩) (fun W => getBit6 _ W) ?_
    unfold PK.read
    dsimp only
    rw [hn]
    by_cases g : n < 2
    · rw [if_pos g, if_pos g]
    · rw [if_neg g, if_neg g]
      by_cases g1 : cutN b 2 = 65280
      · rw [if_pos g1, g1]; rfl
      · by_cases g2 : cutN b 2 = 0
        · rw [if_neg g1, if_pos g2, g2]; rfl
        · rw [if_neg g1, if_neg g2, beq_eq_false_iff_ne.2 g1, beq_eq_false_iff_ne.2 g2]; rfl
  · exact siBDrop b0 W (cell_later hW k0) q a h k x

set_option maxRecDepth 100000 in
set_option maxHeartbeats 400000 in
theorem siB_make (w : World) :
    Calls Tryz.prog 69 #[.func (.func 70) #[] #[], .func (.func 71) #[] #[], .func (.func 72) #[] #[]] w (PartPost w PK.bit) := by
  obtain ⟨h0, h1, h2, hb⟩ := chain4 w (.cells #[.func (.func 70) #[] #[]] 126) (.cells #[.func (.func 71) #[] #[]] 127) (.cells #[.func (.func 72) #[] #[]] 128) (.cells #[.func (.func 114) #[] #[.pointer (some ⟨w.heap.size, 0, none⟩)], .func (.func 115) #[] #[.pointer (some ⟨w.heap.size + 1, 0, none⟩), .pointer (some ⟨w.heap.size, 0, none⟩)], .func (.func 117) #[] #[.pointer (some ⟨w.heap.size + 1 + 1, 0, none⟩), .pointer (some ⟨w.heap.size, 0, none⟩)], .func (.func 119) #[] #[.pointer (some ⟨w.heap.size, 0, none⟩)]] 122)
  have HI := qh (siB_in w.heap.size _ _ _ _ (box_at h0) (box_at h1) (box_at h2) (by omega) (by omega) (by omega))
  have HB := qh hb
  clear hb h0 h1 h2
  go_enter Tryz.func69, Tryz.ntmps69
  go_wp2_with fail
  refine bodyPost_ret_by (v := .agg #[.func (.func 114) #[] #[.pointer (some ⟨w.heap.size, 0, none⟩)], .func (.func 115) #[] #[.pointer (some ⟨w.heap.size + 1, 0, none⟩), .pointer (some ⟨w.heap.size, 0, none⟩)], .func (.func 117) #[] #[.pointer (some ⟨w.heap.size + 1 + 1, 0, none⟩), .pointer (some ⟨w.heap.size, 0, none⟩)], .func (.func 119) #[] #[.pointer (some ⟨w.heap.size, 0, none⟩)]]) (by simp [results, Tryz.f69, go_sem]) rfl ?_
  exact ⟨_, rfl, HI.out, HB.out⟩

theorem siW_in (lo : Nat) (b0 b1 b2 : Nat) (w : World) (c0 : w.cell? ⟨b0, 0, none⟩ = some (.func (.func 75) #[] #[])) (c1 : w.cell? ⟨b1, 0, none⟩ = some (.func (.func 76) #[] #[])) (c2 : w.cell? ⟨b2, 0, none⟩ = some (.func (.func 77) #[] #[])) (z0 : lo ≤ b0) (z1 : lo ≤ b1) (z2 : lo ≤ b2) :
    PartIn lo w PK.word #[.func (.func 120) #[] #[.pointer (some ⟨b0, 0, none⟩)], .func (.func 121) #[] #[.pointer (some ⟨b1, 0, none⟩), .pointer (some ⟨b0, 0, none⟩)], .func (.func 122) #[] #[.pointer (some ⟨b2, 0, none⟩), .pointer (some ⟨b0, 0, none⟩)], .func (.func 123) #[] #[.pointer (some ⟨b0, 0, none⟩)]] := by
  refine ⟨_, _, _, _, _, _, _, _, rfl, fun w0 h0 => ?_⟩
  have k0 := h0.cell c0 z0
  have k1 := h0.cell c1 z1
  have k2 := h0.cell c2 z2
  have m0 : b0 < w0.heap.size := World.block_lt_of_cell? _ _ k0
  have m1 : b1 < w0.heap.size := World.block_lt_of_cell? _ _ k1
  refine ⟨trivial, enters_of Tryz.func120 (by kernel_rfl) rfl, enters_of Tryz.func121 (by kernel_rfl) rfl, enters_of Tryz.func122 (by kernel_rfl) rfl, enters_of Tryz.func123 (by kernel_rfl) rfl, fun W hW a h k ha => ?_, fun Wa W hWa hW a h k ha hf B v n xs ho hB1 hB2 hn => ?_, fun W hW A n c b hn hnc hcm hm hb q S a h k _ x => ?_, fun W hW q S a h k _ x => ?_⟩
  · exact siWFits b0 W (cell_later hW k0) a h k ha
  · have e0 := cell_later hWa k0
    have e1 := cell_later hWa k1
    have z := hWa.size
    unfold PK.fits at hf
    simp only [beq_iff_eq] at hf
    obtain ⟨y, hy⟩ := List.length_eq_one_iff.1 hf
    refine (siWLay b0 b1 Wa W (cell_later hW e0) (cell_later hW e1) a h k hW ha y hy B v n xs ho hB2 hB1 (by omega) (by omega) (by omega)).mono ?_
    rintro e w' ⟨A, c, rfl, g1, g2⟩
    refine ⟨A, _, c, rfl, ?_, g2⟩
    unfold PK.out
    rw [hy]
    exact g1
  · refine siWRead b0 b2 w0 W (cell_later hW k0) (cell_later hW k2) hW A n c b hn hnc hcm hm hb q a h k x true (cutN b 2) 0 (fun W => ⟨_, getWord6 0 W⟩) (fun W => getWord6 _ W) ?_
    unfold PK.read
    dsimp only
    rw [hn]
    simp
  · exact siWDrop b0 W (cell_later hW k0) q a h k x

set_option maxRecDepth 100000 in
set_option maxHeartbeats 400000 in
theorem siW_make (w : World) :
    Calls Tryz.prog 74 #[.func (.func 75) #[] #[], .func (.func 76) #[] #[], .func (.func 77) #[] #[]] w (PartPost w PK.word) := by
  obtain ⟨h0, h1, h2, hb⟩ := chain4 w (.cells #[.func (.func 75) #[] #[]] 130) (.cells #[.func (.func 76) #[] #[]] 131) (.cells #[.func (.func 77) #[] #[]] 132) (.cells #[.func (.func 120) #[] #[.pointer (some ⟨w.heap.size, 0, none⟩)], .func (.func 121) #[] #[.pointer (some ⟨w.heap.size + 1, 0, none⟩), .pointer (some ⟨w.heap.size, 0, none⟩)], .func (.func 122) #[] #[.pointer (some ⟨w.heap.size + 1 + 1, 0, none⟩), .pointer (some ⟨w.heap.size, 0, none⟩)], .func (.func 123) #[] #[.pointer (some ⟨w.heap.size, 0, none⟩)]] 122)
  have HI := qh (siW_in w.heap.size _ _ _ _ (box_at h0) (box_at h1) (box_at h2) (by omega) (by omega) (by omega))
  have HB := qh hb
  clear hb h0 h1 h2
  go_enter Tryz.func74, Tryz.ntmps74
  go_wp2_with fail
  refine bodyPost_ret_by (v := .agg #[.func (.func 120) #[] #[.pointer (some ⟨w.heap.size, 0, none⟩)], .func (.func 121) #[] #[.pointer (some ⟨w.heap.size + 1, 0, none⟩), .pointer (some ⟨w.heap.size, 0, none⟩)], .func (.func 122) #[] #[.pointer (some ⟨w.heap.size + 1 + 1, 0, none⟩), .pointer (some ⟨w.heap.size, 0, none⟩)], .func (.func 123) #[] #[.pointer (some ⟨w.heap.size, 0, none⟩)]]) (by simp [results, Tryz.f74, go_sem]) rfl ?_
  exact ⟨_, rfl, HI.out, HB.out⟩

theorem liB_in (m : Nat) (hmx : m ≤ 1968) (lo : Nat) (b0 b1 b2 b3 : Nat) (w : World) (c0 : w.cell? ⟨b0, 0, none⟩ = some (.func (.func 70) #[] #[])) (c1 : w.cell? ⟨b1, 0, none⟩ = some (.int .i64 (m : Int))) (c2 : w.cell? ⟨b2, 0, none⟩ = some (.func (.func 80) #[] #[])) (c3 : w.cell? ⟨b3, 0, none⟩ = some (.func (.func 81) #[] #[])) (z0 : lo ≤ b0) (z1 : lo ≤ b1) (z2 : lo ≤ b2) (z3 : lo ≤ b3) :
    PartIn lo w (PK.bits m) #[.func (.func 124) #[] #[.pointer (some ⟨b0, 0, none⟩), .pointer (some ⟨b1, 0, none⟩)], .func (.func 125) #[] #[.pointer (some ⟨b0, 0, none⟩), .pointer (some ⟨b2, 0, none⟩)], .func (.func 126) #[] #[.pointer (some ⟨b3, 0, none⟩), .pointer (some ⟨b0, 0, none⟩)], .func (.func 127) #[] #[.pointer (some ⟨b0, 0, none⟩)]] := by
  refine ⟨_, _, _, _, _, _, _, _, rfl, fun w0 h0 => ?_⟩
  have k0 := h0.cell c0 z0
  have k1 := h0.cell c1 z1
  have k2 := h0.cell c2 z2
  have k3 := h0.cell c3 z3
  have m0 : b0 < w0.heap.size := World.block_lt_of_cell? _ _ k0
  have m1 : b2 < w0.heap.size := World.block_lt_of_cell? _ _ k2
  refine ⟨hmx, enters_of Tryz.func124 (by kernel_rfl) rfl, enters_of Tryz.func125 (by kernel_rfl) rfl, enters_of Tryz.func126 (by kernel_rfl) rfl, enters_of Tryz.func127 (by kernel_rfl) rfl, fun W hW a h k ha => ?_, fun Wa W hWa hW a h k ha hf B v n xs ho hB1 hB2 hn => ?_, fun W hW A n c b hn hnc hcm hm hb q S a h k _ x => ?_, fun W hW q S a h k _ x => ?_⟩
  · exact liBFits b0 b1 m W (cell_later hW k0) (cell_later hW k1) a h k ha
  · have e0 := cell_later hWa k0
    have e2 := cell_later hWa k2
    have z := hWa.size
    unfold PK.fits at hf
    simp only [Bool.and_eq_true, decide_eq_true_eq] at hf
    exact liBLay b0 b2 Wa W (cell_later hW e0) (cell_later hW e2) a h k hW ha (by omega) B v n xs ho hB2 hB1 (by omega) (by omega) (by omega)
  · exact liBRead b0 b3 m w0 W (cell_later hW k0) (cell_later hW k3) hW A n c b hn hnc hcm hm hb q a h k x
  · exact liBDrop b0 W (cell_later hW k0) q a h k x

set_option maxRecDepth 100000 in
set_option maxHeartbeats 400000 in
theorem liB_make (m : Nat) (hmx : m ≤ 1968) (w : World) :
    Calls Tryz.prog 79 #[.func (.func 70) #[] #[], .int .i64 (m : Int), .func (.func 80) #[] #[], .func (.func 81) #[] #[]] w (PartPost w (PK.bits m)) := by
  obtain ⟨h0, h1, h2, h3, hb⟩ := chain5 w (.cells #[.func (.func 70) #[] #[]] 126) (.cells #[.int .i64 (m : Int)] 3) (.cells #[.func (.func 80) #[] #[]] 134) (.cells #[.func (.func 81) #[] #[]] 135) (.cells #[.func (.func 124) #[] #[.pointer (some ⟨w.heap.size, 0, none⟩), .pointer (some ⟨w.heap.size + 1, 0, none⟩)], .func (.func 125) #[] #[.pointer (some ⟨w.heap.size, 0, none⟩), .pointer (some ⟨w.heap.size + 1 + 1, 0, none⟩)], .func (.func 126) #[] #[.pointer (some ⟨w.heap.size + 1 + 1 + 1, 0, none⟩), .pointer (some ⟨w.heap.size, 0, none⟩)], .func (.func 127) #[] #[.pointer (some ⟨w.heap.size, 0, none⟩)]] 122)
  have HI := qh (liB_in m hmx w.heap.size _ _ _ _ _ (box_at h0) (box_at h1) (box_at h2) (box_at h3) (by omega) (by omega) (by omega) (by omega))
  have HB := qh hb
  clear hb h0 h1 h2 h3
  go_enter Tryz.func79, Tryz.ntmps79
  go_wp2_with fail
  refine bodyPost_ret_by (v := .agg #[.func (.func 124) #[] #[.pointer (some ⟨w.heap.size, 0, none⟩), .pointer (some ⟨w.heap.size + 1, 0, none⟩)], .func (.func 125) #[] #[.pointer (some ⟨w.heap.size, 0, none⟩), .pointer (some ⟨w.heap.size + 1 + 1, 0, none⟩)], .func (.func 126) #[] #[.pointer (some ⟨w.heap.size + 1 + 1 + 1, 0, none⟩), .pointer (some ⟨w.heap.size, 0, none⟩)], .func (.func 127) #[] #[.pointer (some ⟨w.heap.size, 0, none⟩)]]) (by simp [results, Tryz.f79, go_sem]) rfl ?_
  exact ⟨_, rfl, HI.out, HB.out⟩

theorem liW_in (m : Nat) (hmx : m ≤ 123) (lo : Nat) (b0 b1 b2 b3 : Nat) (w : World) (c0 : w.cell? ⟨b0, 0, none⟩ = some (.func (.func 75) #[] #[])) (c1 : w.cell? ⟨b1, 0, none⟩ = some (.int .i64 (m : Int))) (c2 : w.cell? ⟨b2, 0, none⟩ = some (.func (.func 133) #[] #[])) (c3 : w.cell? ⟨b3, 0, none⟩ = some (.func (.func 134) #[] #[])) (z0 : lo ≤ b0) (z1 : lo ≤ b1) (z2 : lo ≤ b2) (z3 : lo ≤ b3) :
    PartIn lo w (PK.words m) #[.func (.func 155) #[] #[.pointer (some ⟨b0, 0, none⟩), .pointer (some ⟨b1, 0, none⟩)], .func (.func 156) #[] #[.pointer (some ⟨b0, 0, none⟩), .pointer (some ⟨b2, 0, none⟩)], .func (.func 157) #[] #[.pointer (some ⟨b3, 0, none⟩), .pointer (some ⟨b0, 0, none⟩)], .func (.func 158) #[] #[.pointer (some ⟨b0, 0, none⟩)]] := by
  refine ⟨_, _, _, _, _, _, _, _, rfl, fun w0 h0 => ?_⟩
  have k0 := h0.cell c0 z0
  have k1 := h0.cell c1 z1
  have k2 := h0.cell c2 z2
  have k3 := h0.cell c3 z3
  have m0 : b0 < w0.heap.size := World.block_lt_of_cell? _ _ k0
  have m1 : b2 < w0.heap.size := World.block_lt_of_cell? _ _ k2
  refine ⟨hmx, enters_of Tryz.func155 (by kernel_rfl) rfl, enters_of Tryz.func156 (by kernel_rfl) rfl, enters_of Tryz.func157 (by kernel_rfl) rfl, enters_of Tryz.func158 (by kernel_rfl) rfl, fun W hW a h k ha => ?_, fun Wa W hWa hW a h k ha hf B v n xs ho hB1 hB2 hn => ?_, fun W hW A n c b hn hnc hcm hm hb q S a h k _ x => ?_, fun W hW q S a h k _ x => ?_⟩
  · exact liWFits b0 b1 m W (cell_later hW k0) (cell_later hW k1) a h k ha
  · have e0 := cell_later hWa k0
    have e2 := cell_later hWa k2
    have z := hWa.size
    unfold PK.fits at hf
    simp only [Bool.and_eq_true, decide_eq_true_eq] at hf
    exact liWLay b0 b2 Wa W (cell_later hW e0) (cell_later hW e2) a h k hW ha (by omega) B v n xs ho hB2 hB1 (by omega) (by omega) (by omega)
  · exact liWRead b0 b3 m w0 W (cell_later hW k0) (cell_later hW k3) hW A n c b hn hnc hcm hm hb q a h k x
  · exact liWDrop b0 W (cell_later hW k0) q a h k x

set_option maxRecDepth 100000 in
set_option maxHeartbeats 400000 in
theorem liW_make (m : Nat) (hmx : m ≤ 123) (w : World) :
    Calls Tryz.prog 132 #[.func (.func 75) #[] #[], .int .i64 (m : Int), .func (.func 133) #[] #[], .func (.func 134) #[] #[]] w (PartPost w (PK.words m)) := by
  obtain ⟨h0, h1, h2, h3, hb⟩ := chain5 w (.cells #[.func (.func 75) #[] #[]] 130) (.cells #[.int .i64 (m : Int)] 3) (.cells #[.func (.func 133) #[] #[]] 148) (.cells #[.func (.func 134) #[] #[]] 173) (.cells #[.func (.func 155) #[] #[.pointer (some ⟨w.heap.size, 0, none⟩), .pointer (some ⟨w.heap.size + 1, 0, none⟩)], .func (.func 156) #[] #[.pointer (some ⟨w.heap.size, 0, none⟩), .pointer (some ⟨w.heap.size + 1 + 1, 0, none⟩)], .func (.func 157) #[] #[.pointer (some ⟨w.heap.size + 1 + 1 + 1, 0, none⟩), .pointer (some ⟨w.heap.size, 0, none⟩)], .func (.func 158) #[] #[.pointer (some ⟨w.heap.size, 0, none⟩)]] 122)
  have HI := qh (liW_in m hmx w.heap.size _ _ _ _ _ (box_at h0) (box_at h1) (box_at h2) (box_at h3) (by omega) (by omega) (by omega) (by omega))
  have HB := qh hb
  clear hb h0 h1 h2 h3
  go_enter Tryz.func132, Tryz.ntmps132
  go_wp2_with fail
  refine bodyPost_ret_by (v := .agg #[.func (.func 155) #[] #[.pointer (some ⟨w.heap.size, 0, none⟩), .pointer (some ⟨w.heap.size + 1, 0, none⟩)], .func (.func 156) #[] #[.pointer (some ⟨w.heap.size, 0, none⟩), .pointer (some ⟨w.heap.size + 1 + 1, 0, none⟩)], .func (.func 157) #[] #[.pointer (some ⟨w.heap.size + 1 + 1 + 1, 0, none⟩), .pointer (some ⟨w.heap.size, 0, none⟩)], .func (.func 158) #[] #[.pointer (some ⟨w.heap.size, 0, none⟩)]]) (by simp [results, Tryz.f132, go_sem]) rfl ?_
  exact ⟨_, rfl, HI.out, HB.out⟩
end Go.Proofs.YtlgmjnjhdamknaaGreat
