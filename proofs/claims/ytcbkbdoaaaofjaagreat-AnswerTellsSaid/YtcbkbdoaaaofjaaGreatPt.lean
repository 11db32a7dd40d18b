
/-
  The landed ask: the parts as they are made.
-/
import Derived.Test.YtcbkbdoaaaofjaaGreatAt
import Derived.Laws.EntriesVeiled
namespace Go.Proofs.YtcbkbdoaaaofjaaGreat
open Go.RowKit Go.Shelf

set_option maxRecDepth 100000 in
set_option maxHeartbeats 400000 in
theorem numUFits (f : UF) (gof : Nat) (O : OfOK gof f.ix) (b0 b2 b3 : Nat) (W : World) (c0 : W.cell? ⟨b0, 0, none⟩ = some (.func (.func gof) #[] #[])) (c2 : W.cell? ⟨b2, 0, none⟩ = some (.int .i64 0)) (c3 : W.cell? ⟨b3, 0, none⟩ = some (.int .i64 65535)) (a : Ask) (h k : Option Addr × Nat × Nat) :
    Calls Tryz.prog 130 #[askV a h k, .pointer (some ⟨b0, 0, none⟩), .pointer (some ⟨b2, 0, none⟩), .pointer (some ⟨b3, 0, none⟩)] W fun e w' => e = .returned (.bool true) ∧ Below W.heap.size W w' := by
  have eg := O.en
  have hO := O.ca
  have hc := box_cell W (askCells a h k) 26 _ _ (UF.cell f a h k)
  unfold askCells u16v at hc
  have hx := (f.get a).toNat_lt
  generalize (f.get a).toNat = n at *
  generalize f.ix = i at *
  have l0 := World.block_lt_of_cell? _ _ c0
  have l2 := World.block_lt_of_cell? _ _ c2
  have l3 := World.block_lt_of_cell? _ _ c3
  have i6 : IntKind.i64.wrap (n : Int) = (n : Int) := by rw [IntKind.wrap_i64]; omega
  have g1 : (0 : Int) ≤ (n : Int) := by omega
  have g2 : (n : Int) ≤ 65535 := by omega
  unfold Enters at eg
  rw [askV_eq]
  go_enter Tryz.func130, Tryz.ntmps130
  go_wp2_with (go_at_fn gof; refine (hO _ _).mono ?_; rintro e w' ⟨rfl, rfl⟩)
  go_ret
  exact ⟨rfl, (Below.refl _ _).alloc (Nat.le_refl _) _⟩

/-- What lies from a block on lies as it lay. -/
structure Since (lo : Nat) (w w' : World) : Prop where
  size : w.heap.size ≤ w'.heap.size
  block : ∀ j, lo ≤ j → j < w.heap.size → w'.heap[j]? = w.heap[j]?
theorem Since.refl (lo : Nat) (w : World) : Since lo w w := ⟨Nat.le_refl _, fun _ _ _ => rfl⟩
theorem Since.trans {lo : Nat} {a b c : World} (h : Since lo a b) (k : Since lo b c) : Since lo a c := ⟨Nat.le_trans h.size k.size, fun j h1 h2 => (k.block j h1 (Nat.lt_of_lt_of_le h2 h.size)).trans (h.block j h1 h2)⟩
theorem Since.mono {lo lo' : Nat} {a b : World} (h : Since lo a b) (hl : lo ≤ lo') : Since lo' a b := ⟨h.size, fun j h1 h2 => h.block j (Nat.le_trans hl h1) h2⟩
theorem Since.of_below {lo : Nat} {a b : World} (h : Below a.heap.size a b) : Since lo a b := ⟨h.size, fun j _ h2 => h.block j h2⟩
theorem Since.cell {lo : Nat} {a b : World} (h : Since lo a b) {p : Addr} {v : Value} (hc : a.cell? p = some v) (hl : lo ≤ p.block) : b.cell? p = some v :=
  (World.cell?_of_block (w := a) (h.block p.block hl (World.block_lt_of_cell? _ _ hc))).trans hc
/-- A part lies in w, from the block lo on. -/
def PartIn (lo : Nat) (w : World) (p : PK) (vs : Array Value) : Prop := ∃ g1 g2 g3 g4 l1 l2 l3 l4, vs = #[.func (.func g1) #[] l1, .func (.func g2) #[] l2, .func (.func g3) #[] l3, .func (.func g4) #[] l4] ∧ ∀ w0, Since lo w w0 → PartOK w0 p g1 g2 g3 g4 l1 l2 l3 l4
theorem PartIn.since {lo : Nat} {w w' : World} {p : PK} {vs : Array Value} (h : PartIn lo w p vs) (hb : Since lo w w') : PartIn lo w' p vs := by
  obtain ⟨g1, g2, g3, g4, l1, l2, l3, l4, e, hp⟩ := h
  exact ⟨g1, g2, g3, g4, l1, l2, l3, l4, e, fun w0 h0 => hp w0 (hb.trans h0)⟩
theorem PartIn.low {lo lo' : Nat} {w : World} {p : PK} {vs : Array Value} (h : PartIn lo w p vs) (hl : lo' ≤ lo) : PartIn lo' w p vs := by
  obtain ⟨g1, g2, g3, g4, l1, l2, l3, l4, e, hp⟩ := h
  exact ⟨g1, g2, g3, g4, l1, l2, l3, l4, e, fun w0 h0 => hp w0 (h0.mono hl)⟩
/-- What a function that makes a part leaves. -/
def PartPost (w : World) (p : PK) (e : Ending) (w' : World) : Prop := ∃ vs, e = .returned (.agg vs) ∧ PartIn w.heap.size w' p vs ∧ Below w.heap.size w w'

theorem IF.get_u16 {f : IF} {a : Ask} (h0 : 0 ≤ f.get a) (h1 : f.get a ≤ 65535) : f.get a = ((UInt16.ofNat (f.get a).toNat).toNat : Int) := by
  rw [UInt16.toNat_ofNat']
  omega
theorem numI_in (f : IF) (gof : Nat) (O : OfOK gof f.ix) (sz : Nat) (lo hi : Int) (fine : (PK.num f sz lo hi).Fine) (lw : Nat) (b0 b1 b2 b3 : Nat) (w : World) (c0 : w.cell? ⟨b0, 0, none⟩ = some (.func (.func gof) #[] #[])) (c1 : w.cell? ⟨b1, 0, none⟩ = some (.int .i64 (sz : Int))) (c2 : w.cell? ⟨b2, 0, none⟩ = some (.int .i64 lo)) (c3 : w.cell? ⟨b3, 0, none⟩ = some (.int .i64 hi)) (z0 : lw ≤ b0) (z1 : lw ≤ b1) (z2 : lw ≤ b2) (z3 : lw ≤ b3) :
    PartIn lw w (.num f sz lo hi) #[.func (.func 119) #[] #[.pointer (some ⟨b0, 0, none⟩), .pointer (some ⟨b2, 0, none⟩), .pointer (some ⟨b3, 0, none⟩)], .func (.func 120) #[] #[.pointer (some ⟨b0, 0, none⟩), .pointer (some ⟨b1, 0, none⟩)], .func (.func 121) #[] #[.pointer (some ⟨b1, 0, none⟩), .pointer (some ⟨b0, 0, none⟩)], .func (.func 122) #[] #[.pointer (some ⟨b0, 0, none⟩)]] := by
  refine ⟨_, _, _, _, _, _, _, _, rfl, fun w0 h0 => ?_⟩
  have k0 := h0.cell c0 z0
  have k1 := h0.cell c1 z1
  have k2 := h0.cell c2 z2
  have k3 := h0.cell c3 z3
  have m0 : b0 < w0.heap.size := World.block_lt_of_cell? _ _ k0
  have m1 : b1 < w0.heap.size := World.block_lt_of_cell? _ _ k1
  refine ⟨fine, enters_of Tryz.func119 (by kernel_rfl) rfl, enters_of Tryz.func120 (by kernel_rfl) rfl, enters_of Tryz.func121 (by kernel_rfl) rfl, enters_of Tryz.func122 (by kernel_rfl) rfl, fun W hW a h k _ => ?_, fun Wa W hWa hW a h k ha hf B v n xs ho hB1 hB2 hn => ?_, fun W hW A n c b hn hnc hcm hm hb q S a h k _ x => ?_, fun W hW q S a h k _ x => ?_⟩
  · exact numFits f gof O b0 b2 b3 lo hi W (cell_later hW k0) (cell_later hW k2) (cell_later hW k3) a h k
  · have e0 := cell_later hWa k0
    have e1 := cell_later hWa k1
    have z := hWa.size
    unfold PK.fits at hf
    simp only [Bool.and_eq_true, decide_eq_true_eq] at hf
    have hx := IF.get_u16 (f := f) (a := a) (by have := fine.2.1; omega) (by have := fine.2.2; omega)
    refine (numILay f gof O b0 b1 sz fine.1 W (cell_later hW e0) (cell_later hW e1) a h k _ hx B v n xs ho hB2 (by omega) (by omega) (by omega)).mono ?_
    rintro e w' ⟨A, c, rfl, g1, g2⟩
    exact ⟨A, _, c, rfl, g1, g2⟩
  · exact numIRead f gof O b0 b1 sz fine.1 lo hi w0 W (cell_later hW k0) (cell_later hW k1) hW A n c b hn hnc hcm hm hb q a h k x
  · refine (numIDrop f gof O b0 W (cell_later hW k0) q a h k x).mono ?_
    rintro e w' ⟨hv, g1, g2⟩
    exact ⟨hv, h, k, g1, g2⟩
theorem numU_in (f : UF) (gof : Nat) (O : OfOK gof f.ix) (lw : Nat) (b0 b1 b2 b3 : Nat) (w : World) (c0 : w.cell? ⟨b0, 0, none⟩ = some (.func (.func gof) #[] #[])) (c1 : w.cell? ⟨b1, 0, none⟩ = some (.int .i64 2)) (c2 : w.cell? ⟨b2, 0, none⟩ = some (.int .i64 0)) (c3 : w.cell? ⟨b3, 0, none⟩ = some (.int .i64 65535)) (z0 : lw ≤ b0) (z1 : lw ≤ b1) (z2 : lw ≤ b2) (z3 : lw ≤ b3) :
    PartIn lw w (.mask f) #[.func (.func 130) #[] #[.pointer (some ⟨b0, 0, none⟩), .pointer (some ⟨b2, 0, none⟩), .pointer (some ⟨b3, 0, none⟩)], .func (.func 131) #[] #[.pointer (some ⟨b0, 0, none⟩), .pointer (some ⟨b1, 0, none⟩)], .func (.func 132) #[] #[.pointer (some ⟨b1, 0, none⟩), .pointer (some ⟨b0, 0, none⟩)], .func (.func 133) #[] #[.pointer (some ⟨b0, 0, none⟩)]] := by
  refine ⟨_, _, _, _, _, _, _, _, rfl, fun w0 h0 => ?_⟩
  have k0 := h0.cell c0 z0
  have k1 := h0.cell c1 z1
  have k2 := h0.cell c2 z2
  have k3 := h0.cell c3 z3
  have m0 : b0 < w0.heap.size := World.block_lt_of_cell? _ _ k0
  have m1 : b1 < w0.heap.size := World.block_lt_of_cell? _ _ k1
  refine ⟨trivial, enters_of Tryz.func130 (by kernel_rfl) rfl, enters_of Tryz.func131 (by kernel_rfl) rfl, enters_of Tryz.func132 (by kernel_rfl) rfl, enters_of Tryz.func133 (by kernel_rfl) rfl, fun W hW a h k _ => ?_, fun Wa W hWa hW a h k ha hf B v n xs ho hB1 hB2 hn => ?_, fun W hW A n c b hn hnc hcm hm hb q S a h k _ x => ?_, fun W hW q S a h k _ x => ?_⟩
  · exact numUFits f gof O b0 b2 b3 W (cell_later hW k0) (cell_later hW k2) (cell_later hW k3) a h k
  · have e0 := cell_later hWa k0
    have e1 := cell_later hWa k1
    have z := hWa.size
    refine (numULay f gof O b0 b1 2 (.inr rfl) W (cell_later hW e0) (cell_later hW e1) a h k _ rfl B v n xs ho hB2 (by omega) (by omega) (by omega)).mono ?_
    rintro e w' ⟨A, c, rfl, g1, g2⟩
    exact ⟨A, _, c, rfl, g1, g2⟩
  · exact numURead f gof O b0 b1 w0 W (cell_later hW k0) (cell_later hW k1) hW A n c b hn hnc hcm hm hb q a h k x
  · refine (numUDrop f gof O b0 W (cell_later hW k0) q a h k x).mono ?_
    rintro e w' ⟨hv, g1, g2⟩
    exact ⟨hv, h, k, g1, g2⟩


theorem box_at {w : World} {g : Nat} {v : Value} {t : TypeId} (h : w.heap[g]? = some (.cells #[v] t (0, 0))) : w.cell? ⟨g, 0, none⟩ = some v := by
  simp [World.cell?, h]
theorem new_at (w : World) (o : Obj) (g : Nat) (hg : w.heap.size = g) : (w.alloc o).heap[g]? = some o := by
  subst hg
  exact heap_alloc_new w o
theorem old_at {w : World} {g : Nat} {o : Obj} (h : w.heap[g]? = some o) (o' : Obj) : (w.alloc o').heap[g]? = some o := row_later h ((Below.refl _ _).alloc (Nat.le_refl _) o')
theorem chain5 (w : World) (o0 o1 o2 o3 o4 : Obj) :
    (((((w.alloc o0).alloc o1).alloc o2).alloc o3).alloc o4).heap[w.heap.size]? = some o0 ∧ (((((w.alloc o0).alloc o1).alloc o2).alloc o3).alloc o4).heap[w.heap.size + 1]? = some o1 ∧ (((((w.alloc o0).alloc o1).alloc o2).alloc o3).alloc o4).heap[w.heap.size + 1 + 1]? = some o2 ∧ (((((w.alloc o0).alloc o1).alloc o2).alloc o3).alloc o4).heap[w.heap.size + 1 + 1 + 1]? = some o3 ∧ Below w.heap.size w (((((w.alloc o0).alloc o1).alloc o2).alloc o3).alloc o4) := by
  refine ⟨old_at (old_at (old_at (old_at (new_at w o0 _ rfl) o1) o2) o3) o4, old_at (old_at (old_at (new_at _ o1 _ (by simp)) o2) o3) o4, old_at (old_at (new_at _ o2 _ (by simp)) o3) o4, old_at (new_at _ o3 _ (by simp)) o4, (((((Below.refl _ w).alloc (by simp) _).alloc (by simp) _).alloc (by simp; omega) _).alloc (by simp; omega) _).alloc (by simp; omega) _⟩
theorem chain4 (w : World) (o0 o1 o2 o4 : Obj) :
    ((((w.alloc o0).alloc o1).alloc o2).alloc o4).heap[w.heap.size]? = some o0 ∧ ((((w.alloc o0).alloc o1).alloc o2).alloc o4).heap[w.heap.size + 1]? = some o1 ∧ ((((w.alloc o0).alloc o1).alloc o2).alloc o4).heap[w.heap.size + 1 + 1]? = some o2 ∧ Below w.heap.size w ((((w.alloc o0).alloc o1).alloc o2).alloc o4) := by
  refine ⟨old_at (old_at (old_at (new_at w o0 _ rfl) o1) o2) o4, old_at (old_at (new_at _ o1 _ (by simp)) o2) o4, old_at (new_at _ o2 _ (by simp)) o4, ((((Below.refl _ w).alloc (by simp) _).alloc (by simp) _).alloc (by simp; omega) _).alloc (by simp; omega) _⟩

set_option maxRecDepth 100000 in
set_option maxHeartbeats 400000 in
theorem numI_make (f : IF) (gof : Nat) (O : OfOK gof f.ix) (sz : Nat) (lo hi : Int) (fine : (PK.num f sz lo hi).Fine) (w : World) :
    Calls Tryz.prog 82 #[.func (.func gof) #[] #[], .int .i64 (sz : Int), .int .i64 lo, .int .i64 hi] w (PartPost w (.num f sz lo hi)) := by
  obtain ⟨h0, h1, h2, h3, hb⟩ := chain5 w (.cells #[.func (.func gof) #[] #[]] 110) (.cells #[.int .i64 (sz : Int)] 3) (.cells #[.int .i64 lo] 3) (.cells #[.int .i64 hi] 3) (.cells #[.func (.func 119) #[] #[.pointer (some ⟨w.heap.size, 0, none⟩), .pointer (some ⟨w.heap.size + 1 + 1, 0, none⟩), .pointer (some ⟨w.heap.size + 1 + 1 + 1, 0, none⟩)], .func (.func 120) #[] #[.pointer (some ⟨w.heap.size, 0, none⟩), .pointer (some ⟨w.heap.size + 1, 0, none⟩)], .func (.func 121) #[] #[.pointer (some ⟨w.heap.size + 1, 0, none⟩), .pointer (some ⟨w.heap.size, 0, none⟩)], .func (.func 122) #[] #[.pointer (some ⟨w.heap.size, 0, none⟩)]] 80)
  have HI := Lib.hid (numI_in f gof O sz lo hi fine w.heap.size _ _ _ _ _ (box_at h0) (box_at h1) (box_at h2) (box_at h3) (by omega) (by omega) (by omega) (by omega))
  have HB := Lib.hid hb
  clear hb h0 h1 h2 h3
  go_enter Tryz.func82, Tryz.ntmps82
  go_wp2_with fail
  refine bodyPost_ret_by (v := .agg #[.func (.func 119) #[] #[.pointer (some ⟨w.heap.size, 0, none⟩), .pointer (some ⟨w.heap.size + 1 + 1, 0, none⟩), .pointer (some ⟨w.heap.size + 1 + 1 + 1, 0, none⟩)], .func (.func 120) #[] #[.pointer (some ⟨w.heap.size, 0, none⟩), .pointer (some ⟨w.heap.size + 1, 0, none⟩)], .func (.func 121) #[] #[.pointer (some ⟨w.heap.size + 1, 0, none⟩), .pointer (some ⟨w.heap.size, 0, none⟩)], .func (.func 122) #[] #[.pointer (some ⟨w.heap.size, 0, none⟩)]]) (by simp [results, Tryz.f82, go_sem]) rfl ?_
  exact ⟨_, rfl, HI.out, HB.out⟩

set_option maxRecDepth 100000 in
set_option maxHeartbeats 400000 in
theorem numU_make (f : UF) (gof : Nat) (O : OfOK gof f.ix) (w : World) :
    Calls Tryz.prog 106 #[.func (.func gof) #[] #[], .int .i64 2, .int .i64 0, .int .i64 65535] w (PartPost w (.mask f)) := by
  obtain ⟨h0, h1, h2, h3, hb⟩ := chain5 w (.cells #[.func (.func gof) #[] #[]] 94) (.cells #[.int .i64 2] 3) (.cells #[.int .i64 0] 3) (.cells #[.int .i64 65535] 3) (.cells #[.func (.func 130) #[] #[.pointer (some ⟨w.heap.size, 0, none⟩), .pointer (some ⟨w.heap.size + 1 + 1, 0, none⟩), .pointer (some ⟨w.heap.size + 1 + 1 + 1, 0, none⟩)], .func (.func 131) #[] #[.pointer (some ⟨w.heap.size, 0, none⟩), .pointer (some ⟨w.heap.size + 1, 0, none⟩)], .func (.func 132) #[] #[.pointer (some ⟨w.heap.size + 1, 0, none⟩), .pointer (some ⟨w.heap.size, 0, none⟩)], .func (.func 133) #[] #[.pointer (some ⟨w.heap.size, 0, none⟩)]] 80)
  have HI := Lib.hid (numU_in f gof O w.heap.size _ _ _ _ _ (box_at h0) (box_at h1) (box_at h2) (box_at h3) (by omega) (by omega) (by omega) (by omega))
  have HB := Lib.hid hb
  clear hb h0 h1 h2 h3
  go_enter Tryz.func106, Tryz.ntmps106
  go_wp2_with fail
  refine bodyPost_ret_by (v := .agg #[.func (.func 130) #[] #[.pointer (some ⟨w.heap.size, 0, none⟩), .pointer (some ⟨w.heap.size + 1 + 1, 0, none⟩), .pointer (some ⟨w.heap.size + 1 + 1 + 1, 0, none⟩)], .func (.func 131) #[] #[.pointer (some ⟨w.heap.size, 0, none⟩), .pointer (some ⟨w.heap.size + 1, 0, none⟩)], .func (.func 132) #[] #[.pointer (some ⟨w.heap.size + 1, 0, none⟩), .pointer (some ⟨w.heap.size, 0, none⟩)], .func (.func 133) #[] #[.pointer (some ⟨w.heap.size, 0, none⟩)]]) (by simp [results, Tryz.f106, go_sem]) rfl ?_
  exact ⟨_, rfl, HI.out, HB.out⟩

theorem siB_in (lo : Nat) (b0 b1 b2 : Nat) (w : World) (c0 : w.cell? ⟨b0, 0, none⟩ = some (.func (.func 48) #[] #[])) (c1 : w.cell? ⟨b1, 0, none⟩ = some (.func (.func 49) #[] #[])) (c2 : w.cell? ⟨b2, 0, none⟩ = some (.func (.func 50) #[] #[])) (z0 : lo ≤ b0) (z1 : lo ≤ b1) (z2 : lo ≤ b2) :
    PartIn lo w PK.bit #[.func (.func 86) #[] #[.pointer (some ⟨b0, 0, none⟩)], .func (.func 87) #[] #[.pointer (some ⟨b1, 0, none⟩), .pointer (some ⟨b0, 0, none⟩)], .func (.func 89) #[] #[.pointer (some ⟨b2, 0, none⟩), .pointer (some ⟨b0, 0, none⟩)], .func (.func 91) #[] #[.pointer (some ⟨b0, 0, none⟩)]] := by
  refine ⟨_, _, _, _, _, _, _, _, rfl, fun w0 h0 => ?_⟩
  have k0 := h0.cell c0 z0
  have k1 := h0.cell c1 z1
  have k2 := h0.cell c2 z2
  have m0 : b0 < w0.heap.size := World.block_lt_of_cell? _ _ k0
  have m1 : b1 < w0.heap.size := World.block_lt_of_cell? _ _ k1
  refine ⟨trivial, enters_of Tryz.func86 (by kernel_rfl) rfl, enters_of Tryz.func87 (by kernel_rfl) rfl, enters_of Tryz.func89 (by kernel_rfl) rfl, enters_of Tryz.func91 (by kernel_rfl) rfl, fun W hW a h k ha => ?_, fun Wa W hWa hW a h k ha hf B v n xs ho hB1 hB2 hn => ?_, fun W hW A n c b hn hnc hcm hm hb q S a h k _ x => ?_, fun W hW q S a h k _ x => ?_⟩
  · exact siBFits b0 W (cell_later hW k0) a h k ha
  · have e0 := cell_later hWa k0
    have e1 := cell_later hWa k1
    have z := hWa.size
    unfold PK.fits at hf
    simp only [beq_iff_eq] at hf
    obtain ⟨y, hy⟩ := List.length_eq_one_iff.1 hf
    refine (siBLay b0 b1 Wa W (cell_later hW e0) (cell_later hW e1) a h k hW ha y hy B v n xs ho hB2 hB1 (by omega) (by omega) (by omega)).mono ?_
    rintro e w' ⟨A, c, rfl, g1, g2⟩
    refine ⟨A, _, c, rfl, ?_, g2⟩
    unfold PK.out
    rw [hy]
    exact g1
  · refine siBRead b0 b2 w0 W (cell_later hW k0) (cell_later hW k2) hW A n c b hn hnc hcm hm hb q a h k x (cutN b 2 == 65280 || cutN b 2 == 0) (cutN b 2 == 65280) false (fun W => ⟨_, getBit6 0 W⟩) (fun W => getBit6 _ W) ?_
    unfold PK.read
    dsimp only
    rw [hn]
    by_cases g : n < 2
    · rw [if_pos g, if_pos g]
    · rw [if_neg g, if_neg g]
      by_cases g1 : cutN b 2 = 65280
      · rw [if_pos g1, g1]; rfl
      · by_cases g2 : cutN b 2 = 0
        · rw [if_neg g1, if_pos g2, g2]; rfl
        · rw [if_neg g1, if_neg g2, beq_eq_false_iff_ne.2 g1, beq_eq_false_iff_ne.2 g2]; rfl
  · exact siBDrop b0 W (cell_later hW k0) q a h k x

set_option maxRecDepth 100000 in
set_option maxHeartbeats 400000 in
theorem siB_make (w : World) :
    Calls Tryz.prog 47 #[.func (.func 48) #[] #[], .func (.func 49) #[] #[], .func (.func 50) #[] #[]] w (PartPost w PK.bit) := by
  obtain ⟨h0, h1, h2, hb⟩ := chain4 w (.cells #[.func (.func 48) #[] #[]] 84) (.cells #[.func (.func 49) #[] #[]] 85) (.cells #[.func (.func 50) #[] #[]] 86) (.cells #[.func (.func 86) #[] #[.pointer (some ⟨w.heap.size, 0, none⟩)], .func (.func 87) #[] #[.pointer (some ⟨w.heap.size + 1, 0, none⟩), .pointer (some ⟨w.heap.size, 0, none⟩)], .func (.func 89) #[] #[.pointer (some ⟨w.heap.size + 1 + 1, 0, none⟩), .pointer (some ⟨w.heap.size, 0, none⟩)], .func (.func 91) #[] #[.pointer (some ⟨w.heap.size, 0, none⟩)]] 80)
  have HI := Lib.hid (siB_in w.heap.size _ _ _ _ (box_at h0) (box_at h1) (box_at h2) (by omega) (by omega) (by omega))
  have HB := Lib.hid hb
  clear hb h0 h1 h2
  go_enter Tryz.func47, Tryz.ntmps47
  go_wp2_with fail
  refine bodyPost_ret_by (v := .agg #[.func (.func 86) #[] #[.pointer (some ⟨w.heap.size, 0, none⟩)], .func (.func 87) #[] #[.pointer (some ⟨w.heap.size + 1, 0, none⟩), .pointer (some ⟨w.heap.size, 0, none⟩)], .func (.func 89) #[] #[.pointer (some ⟨w.heap.size + 1 + 1, 0, none⟩), .pointer (some ⟨w.heap.size, 0, none⟩)], .func (.func 91) #[] #[.pointer (some ⟨w.heap.size, 0, none⟩)]]) (by simp [results, Tryz.f47, go_sem]) rfl ?_
  exact ⟨_, rfl, HI.out, HB.out⟩

theorem siW_in (lo : Nat) (b0 b1 b2 : Nat) (w : World) (c0 : w.cell? ⟨b0, 0, none⟩ = some (.func (.func 53) #[] #[])) (c1 : w.cell? ⟨b1, 0, none⟩ = some (.func (.func 54) #[] #[])) (c2 : w.cell? ⟨b2, 0, none⟩ = some (.func (.func 55) #[] #[])) (z0 : lo ≤ b0) (z1 : lo ≤ b1) (z2 : lo ≤ b2) :
    PartIn lo w PK.word #[.func (.func 92) #[] #[.pointer (some ⟨b0, 0, none⟩)], .func (.func 93) #[] #[.pointer (some ⟨b1, 0, none⟩), .pointer (some ⟨b0, 0, none⟩)], .func (.func 94) #[] #[.pointer (some ⟨b2, 0, none⟩), .pointer (some ⟨b0, 0, none⟩)], .func (.func 95) #[] #[.pointer (some ⟨b0, 0, none⟩)]] := by
  refine ⟨_, _, _, _, _, _, _, _, rfl, fun w0 h0 => ?_⟩
  have k0 := h0.cell c0 z0
  have k1 := h0.cell c1 z1
  have k2 := h0.cell c2 z2
  have m0 : b0 < w0.heap.size := World.block_lt_of_cell? _ _ k0
  have m1 : b1 < w0.heap.size := World.block_lt_of_cell? _ _ k1
  refine ⟨trivial, enters_of Tryz.func92 (by kernel_rfl) rfl, enters_of Tryz.func93 (by kernel_rfl) rfl, enters_of Tryz.func94 (by kernel_rfl) rfl, enters_of Tryz.func95 (by kernel_rfl) rfl, fun W hW a h k ha => ?_, fun Wa W hWa hW a h k ha hf B v n xs ho hB1 hB2 hn => ?_, fun W hW A n c b hn hnc hcm hm hb q S a h k _ x => ?_, fun W hW q S a h k _ x => ?_⟩
  · exact siWFits b0 W (cell_later hW k0) a h k ha
  · have e0 := cell_later hWa k0
    have e1 := cell_later hWa k1
    have z := hWa.size
    unfold PK.fits at hf
    simp only [beq_iff_eq] at hf
    obtain ⟨y, hy⟩ := List.length_eq_one_iff.1 hf
    refine (siWLay b0 b1 Wa W (cell_later hW e0) (cell_later hW e1) a h k hW ha y hy B v n xs ho hB2 hB1 (by omega) (by omega) (by omega)).mono ?_
    rintro e w' ⟨A, c, rfl, g1, g2⟩
    refine ⟨A, _, c, rfl, ?_, g2⟩
    unfold PK.out
    rw [hy]
    exact g1
  · refine siWRead b0 b2 w0 W (cell_later hW k0) (cell_later hW k2) hW A n c b hn hnc hcm hm hb q a h k x true (cutN b 2) 0 (fun W => ⟨_, getWord6 0 W⟩) (fun W => getWord6 _ W) ?_
    unfold PK.read
    dsimp only
    rw [hn]
    simp
  · exact siWDrop b0 W (cell_later hW k0) q a h k x

set_option maxRecDepth 100000 in
set_option maxHeartbeats 400000 in
theorem siW_make (w : World) :
    Calls Tryz.prog 52 #[.func (.func 53) #[] #[], .func (.func 54) #[] #[], .func (.func 55) #[] #[]] w (PartPost w PK.word) := by
  obtain ⟨h0, h1, h2, hb⟩ := chain4 w (.cells #[.func (.func 53) #[] #[]] 88) (.cells #[.func (.func 54) #[] #[]] 89) (.cells #[.func (.func 55) #[] #[]] 90) (.cells #[.func (.func 92) #[] #[.pointer (some ⟨w.heap.size, 0, none⟩)], .func (.func 93) #[] #[.pointer (some ⟨w.heap.size + 1, 0, none⟩), .pointer (some ⟨w.heap.size, 0, none⟩)], .func (.func 94) #[] #[.pointer (some ⟨w.heap.size + 1 + 1, 0, none⟩), .pointer (some ⟨w.heap.size, 0, none⟩)], .func (.func 95) #[] #[.pointer (some ⟨w.heap.size, 0, none⟩)]] 80)
  have HI := Lib.hid (siW_in w.heap.size _ _ _ _ (box_at h0) (box_at h1) (box_at h2) (by omega) (by omega) (by omega))
  have HB := Lib.hid hb
  clear hb h0 h1 h2
  go_enter Tryz.func52, Tryz.ntmps52
  go_wp2_with fail
  refine bodyPost_ret_by (v := .agg #[.func (.func 92) #[] #[.pointer (some ⟨w.heap.size, 0, none⟩)], .func (.func 93) #[] #[.pointer (some ⟨w.heap.size + 1, 0, none⟩), .pointer (some ⟨w.heap.size, 0, none⟩)], .func (.func 94) #[] #[.pointer (some ⟨w.heap.size + 1 + 1, 0, none⟩), .pointer (some ⟨w.heap.size, 0, none⟩)], .func (.func 95) #[] #[.pointer (some ⟨w.heap.size, 0, none⟩)]]) (by simp [results, Tryz.f52, go_sem]) rfl ?_
  exact ⟨_, rfl, HI.out, HB.out⟩

theorem liB_in (m : Nat) (hmx : m ≤ 1968) (lo : Nat) (b0 b1 b2 b3 : Nat) (w : World) (c0 : w.cell? ⟨b0, 0, none⟩ = some (.func (.func 48) #[] #[])) (c1 : w.cell? ⟨b1, 0, none⟩ = some (.int .i64 (m : Int))) (c2 : w.cell? ⟨b2, 0, none⟩ = some (.func (.func 58) #[] #[])) (c3 : w.cell? ⟨b3, 0, none⟩ = some (.func (.func 59) #[] #[])) (z0 : lo ≤ b0) (z1 : lo ≤ b1) (z2 : lo ≤ b2) (z3 : lo ≤ b3) :
    PartIn lo w (PK.bits m) #[.func (.func 96) #[] #[.pointer (some ⟨b0, 0, none⟩), .pointer (some ⟨b1, 0, none⟩)], .func (.func 97) #[] #[.pointer (some ⟨b0, 0, none⟩), .pointer (some ⟨b2, 0, none⟩)], .func (.func 98) #[] #[.pointer (some ⟨b3, 0, none⟩), .pointer (some ⟨b0, 0, none⟩)], .func (.func 99) #[] #[.pointer (some ⟨b0, 0, none⟩)]] := by
  refine ⟨_, _, _, _, _, _, _, _, rfl, fun w0 h0 => ?_⟩
  have k0 := h0.cell c0 z0
  have k1 := h0.cell c1 z1
  have k2 := h0.cell c2 z2
  have k3 := h0.cell c3 z3
  have m0 : b0 < w0.heap.size := World.block_lt_of_cell? _ _ k0
  have m1 : b2 < w0.heap.size := World.block_lt_of_cell? _ _ k2
  refine ⟨hmx, enters_of Tryz.func96 (by kernel_rfl) rfl, enters_of Tryz.func97 (by kernel_rfl) rfl, enters_of Tryz.func98 (by kernel_rfl) rfl, enters_of Tryz.func99 (by kernel_rfl) rfl, fun W hW a h k ha => ?_, fun Wa W hWa hW a h k ha hf B v n xs ho hB1 hB2 hn => ?_, fun W hW A n c b hn hnc hcm hm hb q S a h k _ x => ?_, fun W hW q S a h k _ x => ?_⟩
  · exact liBFits b0 b1 m W (cell_later hW k0) (cell_later hW k1) a h k ha
  · have e0 := cell_later hWa k0
    have e2 := cell_later hWa k2
    have z := hWa.size
    unfold PK.fits at hf
    simp only [Bool.and_eq_true, decide_eq_true_eq] at hf
    exact liBLay b0 b2 Wa W (cell_later hW e0) (cell_later hW e2) a h k hW ha (by omega) B v n xs ho hB2 hB1 (by omega) (by omega) (by omega)
  · exact liBRead b0 b3 m w0 W (cell_later hW k0) (cell_later hW k3) hW A n c b hn hnc hcm hm hb q a h k x
  · exact liBDrop b0 W (cell_later hW k0) q a h k x

set_option maxRecDepth 100000 in
set_option maxHeartbeats 400000 in
theorem liB_make (m : Nat) (hmx : m ≤ 1968) (w : World) :
    Calls Tryz.prog 57 #[.func (.func 48) #[] #[], .int .i64 (m : Int), .func (.func 58) #[] #[], .func (.func 59) #[] #[]] w (PartPost w (PK.bits m)) := by
  obtain ⟨h0, h1, h2, h3, hb⟩ := chain5 w (.cells #[.func (.func 48) #[] #[]] 84) (.cells #[.int .i64 (m : Int)] 3) (.cells #[.func (.func 58) #[] #[]] 68) (.cells #[.func (.func 59) #[] #[]] 92) (.cells #[.func (.func 96) #[] #[.pointer (some ⟨w.heap.size, 0, none⟩), .pointer (some ⟨w.heap.size + 1, 0, none⟩)], .func (.func 97) #[] #[.pointer (some ⟨w.heap.size, 0, none⟩), .pointer (some ⟨w.heap.size + 1 + 1, 0, none⟩)], .func (.func 98) #[] #[.pointer (some ⟨w.heap.size + 1 + 1 + 1, 0, none⟩), .pointer (some ⟨w.heap.size, 0, none⟩)], .func (.func 99) #[] #[.pointer (some ⟨w.heap.size, 0, none⟩)]] 80)
  have HI := Lib.hid (liB_in m hmx w.heap.size _ _ _ _ _ (box_at h0) (box_at h1) (box_at h2) (box_at h3) (by omega) (by omega) (by omega) (by omega))
  have HB := Lib.hid hb
  clear hb h0 h1 h2 h3
  go_enter Tryz.func57, Tryz.ntmps57
  go_wp2_with fail
  refine bodyPost_ret_by (v := .agg #[.func (.func 96) #[] #[.pointer (some ⟨w.heap.size, 0, none⟩), .pointer (some ⟨w.heap.size + 1, 0, none⟩)], .func (.func 97) #[] #[.pointer (some ⟨w.heap.size, 0, none⟩), .pointer (some ⟨w.heap.size + 1 + 1, 0, none⟩)], .func (.func 98) #[] #[.pointer (some ⟨w.heap.size + 1 + 1 + 1, 0, none⟩), .pointer (some ⟨w.heap.size, 0, none⟩)], .func (.func 99) #[] #[.pointer (some ⟨w.heap.size, 0, none⟩)]]) (by simp [results, Tryz.f57, go_sem]) rfl ?_
  exact ⟨_, rfl, HI.out, HB.out⟩

theorem liW_in (m : Nat) (hmx : m ≤ 123) (lo : Nat) (b0 b1 b2 b3 : Nat) (w : World) (c0 : w.cell? ⟨b0, 0, none⟩ = some (.func (.func 53) #[] #[])) (c1 : w.cell? ⟨b1, 0, none⟩ = some (.int .i64 (m : Int))) (c2 : w.cell? ⟨b2, 0, none⟩ = some (.func (.func 72) #[] #[])) (c3 : w.cell? ⟨b3, 0, none⟩ = some (.func (.func 105) #[] #[])) (z0 : lo ≤ b0) (z1 : lo ≤ b1) (z2 : lo ≤ b2) (z3 : lo ≤ b3) :
    PartIn lo w (PK.words m) #[.func (.func 126) #[] #[.pointer (some ⟨b0, 0, none⟩), .pointer (some ⟨b1, 0, none⟩)], .func (.func 127) #[] #[.pointer (some ⟨b0, 0, none⟩), .pointer (some ⟨b2, 0, none⟩)], .func (.func 128) #[] #[.pointer (some ⟨b3, 0, none⟩), .pointer (some ⟨b0, 0, none⟩)], .func (.func 129) #[] #[.pointer (some ⟨b0, 0, none⟩)]] := by
  refine ⟨_, _, _, _, _, _, _, _, rfl, fun w0 h0 => ?_⟩
  have k0 := h0.cell c0 z0
  have k1 := h0.cell c1 z1
  have k2 := h0.cell c2 z2
  have k3 := h0.cell c3 z3
  have m0 : b0 < w0.heap.size := World.block_lt_of_cell? _ _ k0
  have m1 : b2 < w0.heap.size := World.block_lt_of_cell? _ _ k2
  refine ⟨hmx, enters_of Tryz.func126 (by kernel_rfl) rfl, enters_of Tryz.func127 (by kernel_rfl) rfl, enters_of Tryz.func128 (by kernel_rfl) rfl, enters_of Tryz.func129 (by kernel_rfl) rfl, fun W hW a h k ha => ?_, fun Wa W hWa hW a h k ha hf B v n xs ho hB1 hB2 hn => ?_, fun W hW A n c b hn hnc hcm hm hb q S a h k _ x => ?_, fun W hW q S a h k _ x => ?_⟩
  · exact liWFits b0 b1 m W (cell_later hW k0) (cell_later hW k1) a h k ha
  · have e0 := cell_later hWa k0
    have e2 := cell_later hWa k2
    have z := hWa.size
    unfold PK.fits at hf
    simp only [Bool.and_eq_true, decide_eq_true_eq] at hf
    exact liWLay b0 b2 Wa W (cell_later hW e0) (cell_later hW e2) a h k hW ha (by omega) B v n xs ho hB2 hB1 (by omega) (by omega) (by omega)
  · exact liWRead b0 b3 m w0 W (cell_later hW k0) (cell_later hW k3) hW A n c b hn hnc hcm hm hb q a h k x
  · exact liWDrop b0 W (cell_later hW k0) q a h k x

set_option maxRecDepth 100000 in
set_option maxHeartbeats 400000 in
theorem liW_make (m : Nat) (hmx : m ≤ 123) (w : World) :
    Calls Tryz.prog 104 #[.func (.func 53) #[] #[], .int .i64 (m : Int), .func (.func 72) #[] #[], .func (.func 105) #[] #[]] w (PartPost w (PK.words m)) := by
  obtain ⟨h0, h1, h2, h3, hb⟩ := chain5 w (.cells #[.func (.func 53) #[] #[]] 88) (.cells #[.int .i64 (m : Int)] 3) (.cells #[.func (.func 72) #[] #[]] 69) (.cells #[.func (.func 105) #[] #[]] 126) (.cells #[.func (.func 126) #[] #[.pointer (some ⟨w.heap.size, 0, none⟩), .pointer (some ⟨w.heap.size + 1, 0, none⟩)], .func (.func 127) #[] #[.pointer (some ⟨w.heap.size, 0, none⟩), .pointer (some ⟨w.heap.size + 1 + 1, 0, none⟩)], .func (.func 128) #[] #[.pointer (some ⟨w.heap.size + 1 + 1 + 1, 0, none⟩), .pointer (some ⟨w.heap.size, 0, none⟩)], .func (.func 129) #[] #[.pointer (some ⟨w.heap.size, 0, none⟩)]] 80)
  have HI := Lib.hid (liW_in m hmx w.heap.size _ _ _ _ _ (box_at h0) (box_at h1) (box_at h2) (box_at h3) (by omega) (by omega) (by omega) (by omega))
  have HB := Lib.hid hb
  clear hb h0 h1 h2 h3
  go_enter Tryz.func104, Tryz.ntmps104
  go_wp2_with fail
  refine bodyPost_ret_by (v := .agg #[.func (.func 126) #[] #[.pointer (some ⟨w.heap.size, 0, none⟩), .pointer (some ⟨w.heap.size + 1, 0, none⟩)], .func (.func 127) #[] #[.pointer (some ⟨w.heap.size, 0, none⟩), .pointer (some ⟨w.heap.size + 1 + 1, 0, none⟩)], .func (.func 128) #[] #[.pointer (some ⟨w.heap.size + 1 + 1 + 1, 0, none⟩), .pointer (some ⟨w.heap.size, 0, none⟩)], .func (.func 129) #[] #[.pointer (some ⟨w.heap.size, 0, none⟩)]]) (by simp [results, Tryz.f104, go_sem]) rfl ?_
  exact ⟨_, rfl, HI.out, HB.out⟩
end Go.Proofs.YtcbkbdoaaaofjaaGreat

/-
  The landed ask: the functions that make the parts of codes.
-/
namespace Go.Proofs.YtcbkbdoaaaofjaaGreat
open Go.RowKit Go.Shelf

theorem row_four {w : World} {g : Nat} {a b c d : Value} {t : TypeId} (h : w.heap[g]? = some (.cells #[a, b, c, d] t (0, 0))) :
    w.cell? ⟨g, 0, none⟩ = some a ∧ w.cell? ⟨g, 1, none⟩ = some b ∧ w.cell? ⟨g, 2, none⟩ = some c ∧ w.cell? ⟨g, 3, none⟩ = some d ∧ w.frozen? ⟨g, 0, none⟩ = false ∧ w.frozen? ⟨g, 1, none⟩ = false ∧ w.frozen? ⟨g, 2, none⟩ = false ∧ w.frozen? ⟨g, 3, none⟩ = false := by
  simp [World.cell?, World.frozen?, h]
/-- What lies behind a store of a part into the variable that it is made in. -/
theorem made {w W : World} {g : Nat} {t : TypeId} {a b c d : Value} (h : W.heap[g]? = some (.cells #[a, b, c, d] t (0, 0))) (hb : Below w.heap.size w W) (hg : w.heap.size ≤ g) (x1 x2 x3 x4 : Value) :
    ((((W.setCell ⟨g, 0, none⟩ x1).setCell ⟨g, 1, none⟩ x2).setCell ⟨g, 2, none⟩ x3).setCell ⟨g, 3, none⟩ x4).heap[g]? = some (.cells #[x1, x2, x3, x4] t (0, 0)) ∧
    Since (g + 1) W ((((W.setCell ⟨g, 0, none⟩ x1).setCell ⟨g, 1, none⟩ x2).setCell ⟨g, 2, none⟩ x3).setCell ⟨g, 3, none⟩ x4) ∧
    Below w.heap.size w ((((W.setCell ⟨g, 0, none⟩ x1).setCell ⟨g, 1, none⟩ x2).setCell ⟨g, 2, none⟩ x3).setCell ⟨g, 3, none⟩ x4) := by
  refine ⟨row_set (row_set (row_set (row_set h x1) x2) x3) x4, ⟨by simp [World.setCell], fun j h1 h2 => ?_⟩, (((hb.setCell (p := ⟨g, 0, none⟩) hg x1).setCell (p := ⟨g, 1, none⟩) hg x2).setCell (p := ⟨g, 2, none⟩) hg x3).setCell (p := ⟨g, 3, none⟩) hg x4⟩
  have hne : g ≠ j := by omega
  simp only [World.setCell, Array.getElem?_modify, if_neg hne]

set_option maxRecDepth 100000 in
set_option maxHeartbeats 400000 in
theorem addr_make (w : World) : Calls Tryz.prog 44 #[] w (PartPost w (.num .addr 2 0 65535)) := by
  have h0 := row_at w #[.nilFunc, .nilFunc, .nilFunc, .nilFunc] 80 w.heap.size rfl
  have hb0 : Below w.heap.size w (w.alloc (.cells #[.nilFunc, .nilFunc, .nilFunc, .nilFunc] 80)) := (Below.refl _ w).alloc (Nat.le_refl _) _
  have HC := Lib.hid (numI_make .addr 83 addrOf_ok 2 0 65535 ⟨.inr rfl, by omega, by omega⟩ (w.alloc (.cells #[.nilFunc, .nilFunc, .nilFunc, .nilFunc] 80)))
  go_enter Tryz.func44, Tryz.ntmps44
  go_wp2_with fail
  refine HC.out.mono ?_
  rintro e w2 ⟨vs, rfl, hP, hb2⟩
  have hP0 := hP
  obtain ⟨g1, g2, g3, g4, l1, l2, l3, l4, rfl, _⟩ := hP
  have hs : (w.alloc (.cells #[.nilFunc, .nilFunc, .nilFunc, .nilFunc] 80)).heap.size = w.heap.size + 1 := by simp
  rw [hs] at hP0
  have hr := row_later h0 hb2
  obtain ⟨z0, z1, z2, z3, y0, y1, y2, y3⟩ := row_four hr
  obtain ⟨m1, m2, m3⟩ := made hr (hb0.trans (hb2.mono hb0.size)) (Nat.le_refl _) (.func (.func g1) #[] l1) (.func (.func g2) #[] l2) (.func (.func g3) #[] l3) (.func (.func g4) #[] l4)
  obtain ⟨r0, r1, r2, r3, _⟩ := row_four m1
  have HI := Lib.hid ((hP0.since m2).low (show w.heap.size ≤ w.heap.size + 1 by omega))
  have HM := Lib.hid m3
  clear hP0 m1 m2 m3 hr h0 hb0 hb2 hs
  go_wp2_with fail
  refine bodyPost_ret_by (v := .agg #[.func (.func g1) #[] l1, .func (.func g2) #[] l2, .func (.func g3) #[] l3, .func (.func g4) #[] l4]) (by simp [results, Tryz.f44, go_sem, r0, r1, r2, r3]) rfl ?_
  exact ⟨_, rfl, HI.out, HM.out⟩

set_option maxRecDepth 100000 in
set_option maxHeartbeats 400000 in
theorem count_make (m : Nat) (hm : m ≤ 65535) (w : World) : Calls Tryz.prog 45 #[.int .i64 (m : Int)] w (PartPost w (.num .count 2 1 (m : Int))) := by
  have h0 := row_at w #[.nilFunc, .nilFunc, .nilFunc, .nilFunc] 80 w.heap.size rfl
  have hb0 : Below w.heap.size w (w.alloc (.cells #[.nilFunc, .nilFunc, .nilFunc, .nilFunc] 80)) := (Below.refl _ w).alloc (Nat.le_refl _) _
  have HC := Lib.hid (numI_make .count 84 countOf_ok 2 1 (m : Int) ⟨.inr rfl, by omega, by omega⟩ (w.alloc (.cells #[.nilFunc, .nilFunc, .nilFunc, .nilFunc] 80)))
  go_enter Tryz.func45, Tryz.ntmps45
  go_wp2_with fail
  refine HC.out.mono ?_
  rintro e w2 ⟨vs, rfl, hP, hb2⟩
  have hP0 := hP
  obtain ⟨g1, g2, g3, g4, l1, l2, l3, l4, rfl, _⟩ := hP
  have hs : (w.alloc (.cells #[.nilFunc, .nilFunc, .nilFunc, .nilFunc] 80)).heap.size = w.heap.size + 1 := by simp
  rw [hs] at hP0
  have hr := row_later h0 hb2
  obtain ⟨z0, z1, z2, z3, y0, y1, y2, y3⟩ := row_four hr
  obtain ⟨m1, m2, m3⟩ := made hr (hb0.trans (hb2.mono hb0.size)) (Nat.le_refl _) (.func (.func g1) #[] l1) (.func (.func g2) #[] l2) (.func (.func g3) #[] l3) (.func (.func g4) #[] l4)
  obtain ⟨r0, r1, r2, r3, _⟩ := row_four m1
  have HI := Lib.hid ((hP0.since m2).low (show w.heap.size ≤ w.heap.size + 1 by omega))
  have HM := Lib.hid m3
  clear hP0 m1 m2 m3 hr h0 hb0 hb2 hs
  go_wp2_with fail
  refine bodyPost_ret_by (v := .agg #[.func (.func g1) #[] l1, .func (.func g2) #[] l2, .func (.func g3) #[] l3, .func (.func g4) #[] l4]) (by simp [results, Tryz.f45, go_sem, r0, r1, r2, r3]) rfl ?_
  exact ⟨_, rfl, HI.out, HM.out⟩

set_option maxRecDepth 100000 in
set_option maxHeartbeats 400000 in
theorem to_make (w : World) : Calls Tryz.prog 65 #[] w (PartPost w (.num .to 2 0 65535)) := by
  have h0 := row_at w #[.nilFunc, .nilFunc, .nilFunc, .nilFunc] 80 w.heap.size rfl
  have hb0 : Below w.heap.size w (w.alloc (.cells #[.nilFunc, .nilFunc, .nilFunc, .nilFunc] 80)) := (Below.refl _ w).alloc (Nat.le_refl _) _
  have HC := Lib.hid (numI_make .to 107 toOf_ok 2 0 65535 ⟨.inr rfl, by omega, by omega⟩ (w.alloc (.cells #[.nilFunc, .nilFunc, .nilFunc, .nilFunc] 80)))
  go_enter Tryz.func65, Tryz.ntmps65
  go_wp2_with fail
  refine HC.out.mono ?_
  rintro e w2 ⟨vs, rfl, hP, hb2⟩
  have hP0 := hP
  obtain ⟨g1, g2, g3, g4, l1, l2, l3, l4, rfl, _⟩ := hP
  have hs : (w.alloc (.cells #[.nilFunc, .nilFunc, .nilFunc, .nilFunc] 80)).heap.size = w.heap.size + 1 := by simp
  rw [hs] at hP0
  have hr := row_later h0 hb2
  obtain ⟨z0, z1, z2, z3, y0, y1, y2, y3⟩ := row_four hr
  obtain ⟨m1, m2, m3⟩ := made hr (hb0.trans (hb2.mono hb0.size)) (Nat.le_refl _) (.func (.func g1) #[] l1) (.func (.func g2) #[] l2) (.func (.func g3) #[] l3) (.func (.func g4) #[] l4)
  obtain ⟨r0, r1, r2, r3, _⟩ := row_four m1
  have HI := Lib.hid ((hP0.since m2).low (show w.heap.size ≤ w.heap.size + 1 by omega))
  have HM := Lib.hid m3
  clear hP0 m1 m2 m3 hr h0 hb0 hb2 hs
  go_wp2_with fail
  refine bodyPost_ret_by (v := .agg #[.func (.func g1) #[] l1, .func (.func g2) #[] l2, .func (.func g3) #[] l3, .func (.func g4) #[] l4]) (by simp [results, Tryz.f65, go_sem, r0, r1, r2, r3]) rfl ?_
  exact ⟨_, rfl, HI.out, HM.out⟩

set_option maxRecDepth 100000 in
set_option maxHeartbeats 400000 in
theorem level_make (w : World) : Calls Tryz.prog 67 #[] w (PartPost w (.num .count 1 1 4)) := by
  have h0 := row_at w #[.nilFunc, .nilFunc, .nilFunc, .nilFunc] 80 w.heap.size rfl
  have hb0 : Below w.heap.size w (w.alloc (.cells #[.nilFunc, .nilFunc, .nilFunc, .nilFunc] 80)) := (Below.refl _ w).alloc (Nat.le_refl _) _
  have HC := Lib.hid (numI_make .count 84 countOf_ok 1 1 4 ⟨.inl rfl, by omega, by omega⟩ (w.alloc (.cells #[.nilFunc, .nilFunc, .nilFunc, .nilFunc] 80)))
  go_enter Tryz.func67, Tryz.ntmps67
  go_wp2_with fail
  refine HC.out.mono ?_
  rintro e w2 ⟨vs, rfl, hP, hb2⟩
  have hP0 := hP
  obtain ⟨g1, g2, g3, g4, l1, l2, l3, l4, rfl, _⟩ := hP
  have hs : (w.alloc (.cells #[.nilFunc, .nilFunc, .nilFunc, .nilFunc] 80)).heap.size = w.heap.size + 1 := by simp
  rw [hs] at hP0
  have hr := row_later h0 hb2
  obtain ⟨z0, z1, z2, z3, y0, y1, y2, y3⟩ := row_four hr
  obtain ⟨m1, m2, m3⟩ := made hr (hb0.trans (hb2.mono hb0.size)) (Nat.le_refl _) (.func (.func g1) #[] l1) (.func (.func g2) #[] l2) (.func (.func g3) #[] l3) (.func (.func g4) #[] l4)
  obtain ⟨r0, r1, r2, r3, _⟩ := row_four m1
  have HI := Lib.hid ((hP0.since m2).low (show w.heap.size ≤ w.heap.size + 1 by omega))
  have HM := Lib.hid m3
  clear hP0 m1 m2 m3 hr h0 hb0 hb2 hs
  go_wp2_with fail
  refine bodyPost_ret_by (v := .agg #[.func (.func g1) #[] l1, .func (.func g2) #[] l2, .func (.func g3) #[] l3, .func (.func g4) #[] l4]) (by simp [results, Tryz.f67, go_sem, r0, r1, r2, r3]) rfl ?_
  exact ⟨_, rfl, HI.out, HM.out⟩

set_option maxRecDepth 100000 in
set_option maxHeartbeats 400000 in
theorem object_make (w : World) : Calls Tryz.prog 68 #[] w (PartPost w (.num .addr 1 0 255)) := by
  have h0 := row_at w #[.nilFunc, .nilFunc, .nilFunc, .nilFunc] 80 w.heap.size rfl
  have hb0 : Below w.heap.size w (w.alloc (.cells #[.nilFunc, .nilFunc, .nilFunc, .nilFunc] 80)) := (Below.refl _ w).alloc (Nat.le_refl _) _
  have HC := Lib.hid (numI_make .addr 83 addrOf_ok 1 0 255 ⟨.inl rfl, by omega, by omega⟩ (w.alloc (.cells #[.nilFunc, .nilFunc, .nilFunc, .nilFunc] 80)))
  go_enter Tryz.func68, Tryz.ntmps68
  go_wp2_with fail
  refine HC.out.mono ?_
  rintro e w2 ⟨vs, rfl, hP, hb2⟩
  have hP0 := hP
  obtain ⟨g1, g2, g3, g4, l1, l2, l3, l4, rfl, _⟩ := hP
  have hs : (w.alloc (.cells #[.nilFunc, .nilFunc, .nilFunc, .nilFunc] 80)).heap.size = w.heap.size + 1 := by simp
  rw [hs] at hP0
  have hr := row_later h0 hb2
  obtain ⟨z0, z1, z2, z3, y0, y1, y2, y3⟩ := row_four hr
  obtain ⟨m1, m2, m3⟩ := made hr (hb0.trans (hb2.mono hb0.size)) (Nat.le_refl _) (.func (.func g1) #[] l1) (.func (.func g2) #[] l2) (.func (.func g3) #[] l3) (.func (.func g4) #[] l4)
  obtain ⟨r0, r1, r2, r3, _⟩ := row_four m1
  have HI := Lib.hid ((hP0.since m2).low (show w.heap.size ≤ w.heap.size + 1 by omega))
  have HM := Lib.hid m3
  clear hP0 m1 m2 m3 hr h0 hb0 hb2 hs
  go_wp2_with fail
  refine bodyPost_ret_by (v := .agg #[.func (.func g1) #[] l1, .func (.func g2) #[] l2, .func (.func g3) #[] l3, .func (.func g4) #[] l4]) (by simp [results, Tryz.f68, go_sem, r0, r1, r2, r3]) rfl ?_
  exact ⟨_, rfl, HI.out, HM.out⟩

set_option maxRecDepth 100000 in
set_option maxHeartbeats 400000 in
theorem mask_make (f : UF) (gof : Nat) (O : OfOK gof f.ix) (w : World) : Calls Tryz.prog 61 #[.func (.func gof) #[] #[]] w (PartPost w (.mask f)) := by
  have h0 := row_at w #[.nilFunc, .nilFunc, .nilFunc, .nilFunc] 80 w.heap.size rfl
  have hb0 : Below w.heap.size w (w.alloc (.cells #[.nilFunc, .nilFunc, .nilFunc, .nilFunc] 80)) := (Below.refl _ w).alloc (Nat.le_refl _) _
  have HC := Lib.hid (numU_make f gof O (w.alloc (.cells #[.nilFunc, .nilFunc, .nilFunc, .nilFunc] 80)))
  go_enter Tryz.func61, Tryz.ntmps61
  go_wp2_with fail
  refine HC.out.mono ?_
  rintro e w2 ⟨vs, rfl, hP, hb2⟩
  have hP0 := hP
  obtain ⟨g1, g2, g3, g4, l1, l2, l3, l4, rfl, _⟩ := hP
  have hs : (w.alloc (.cells #[.nilFunc, .nilFunc, .nilFunc, .nilFunc] 80)).heap.size = w.heap.size + 1 := by simp
  rw [hs] at hP0
  have hr := row_later h0 hb2
  obtain ⟨z0, z1, z2, z3, y0, y1, y2, y3⟩ := row_four hr
  obtain ⟨m1, m2, m3⟩ := made hr (hb0.trans (hb2.mono hb0.size)) (Nat.le_refl _) (.func (.func g1) #[] l1) (.func (.func g2) #[] l2) (.func (.func g3) #[] l3) (.func (.func g4) #[] l4)
  obtain ⟨r0, r1, r2, r3, _⟩ := row_four m1
  have HI := Lib.hid ((hP0.since m2).low (show w.heap.size ≤ w.heap.size + 1 by omega))
  have HM := Lib.hid m3
  clear hP0 m1 m2 m3 hr h0 hb0 hb2 hs
  go_wp2_with fail
  refine bodyPost_ret_by (v := .agg #[.func (.func g1) #[] l1, .func (.func g2) #[] l2, .func (.func g3) #[] l3, .func (.func g4) #[] l4]) (by simp [results, Tryz.f61, go_sem, r0, r1, r2, r3]) rfl ?_
  exact ⟨_, rfl, HI.out, HM.out⟩

set_option maxRecDepth 100000 in
set_option maxHeartbeats 400000 in
theorem words_make (m : Nat) (hm : m ≤ 123) (w : World) : Calls Tryz.prog 60 #[.int .i64 (m : Int)] w (PartPost w (.words m)) := by
  have h0 := row_at w #[.nilFunc, .nilFunc, .nilFunc, .nilFunc] 80 w.heap.size rfl
  have hb0 : Below w.heap.size w (w.alloc (.cells #[.nilFunc, .nilFunc, .nilFunc, .nilFunc] 80)) := (Below.refl _ w).alloc (Nat.le_refl _) _
  have HC := Lib.hid (liW_make m hm (w.alloc (.cells #[.nilFunc, .nilFunc, .nilFunc, .nilFunc] 80)))
  go_enter Tryz.func60, Tryz.ntmps60
  go_wp2_with fail
  refine HC.out.mono ?_
  rintro e w2 ⟨vs, rfl, hP, hb2⟩
  have hP0 := hP
  obtain ⟨g1, g2, g3, g4, l1, l2, l3, l4, rfl, _⟩ := hP
  have hs : (w.alloc (.cells #[.nilFunc, .nilFunc, .nilFunc, .nilFunc] 80)).heap.size = w.heap.size + 1 := by simp
  rw [hs] at hP0
  have hr := row_later h0 hb2
  obtain ⟨z0, z1, z2, z3, y0, y1, y2, y3⟩ := row_four hr
  obtain ⟨m1, m2, m3⟩ := made hr (hb0.trans (hb2.mono hb0.size)) (Nat.le_refl _) (.func (.func g1) #[] l1) (.func (.func g2) #[] l2) (.func (.func g3) #[] l3) (.func (.func g4) #[] l4)
  obtain ⟨r0, r1, r2, r3, _⟩ := row_four m1
  have HI := Lib.hid ((hP0.since m2).low (show w.heap.size ≤ w.heap.size + 1 by omega))
  have HM := Lib.hid m3
  clear hP0 m1 m2 m3 hr h0 hb0 hb2 hs
  go_wp2_with fail
  refine bodyPost_ret_by (v := .agg #[.func (.func g1) #[] l1, .func (.func g2) #[] l2, .func (.func g3) #[] l3, .func (.func g4) #[] l4]) (by simp [results, Tryz.f60, go_sem, r0, r1, r2, r3]) rfl ?_
  exact ⟨_, rfl, HI.out, HM.out⟩
end Go.Proofs.YtcbkbdoaaaofjaaGreat

/-
  The landed ask: layouts.
-/
namespace Go.Proofs.YtcbkbdoaaaofjaaGreat
open Go.RowKit Go.Shelf

inductive IK | count | bits | words | one | both | always
def IK.ok (a : Ask) : IK → Bool
  | count => decide (a.addr + a.count ≤ 65536)
  | bits => decide (a.addr + a.bits.length ≤ 65536)
  | words => decide (a.addr + a.words.length ≤ 65536)
  | one => decide (a.addr + 1 ≤ 65536)
  | both => decide (a.addr + a.count ≤ 65536) && decide (a.to + a.words.length ≤ 65536)
  | always => true
/-- Numbers that fit are small. -/
structure SmallA (a : Ask) : Prop where
  a0 : 0 ≤ a.addr
  a1 : a.addr ≤ 65535
  c0 : 0 ≤ a.count
  c1 : a.count ≤ 65535
  t0 : 0 ≤ a.to
  t1 : a.to ≤ 65535
  w1 : a.words.length ≤ 2000
  b1 : a.bits.length ≤ 2000
structure InsideOK (g : Nat) (i : IK) : Prop where
  en : Enters Tryz.prog g
  ca : ∀ (W : World) (a : Ask) (h k : Option Addr × Nat × Nat), AskIn W a h k → SmallA a → Calls Tryz.prog g #[askV a h k] W fun e w' => e = .returned (.bool (i.ok a)) ∧ Below W.heap.size W w'

set_option maxHeartbeats 400000 in
theorem countInside_ok : InsideOK 46 .count := ⟨enters_of Tryz.func46 (by kernel_rfl) rfl, fun W a h k ha s => by
  have HS := Lib.hid (stand_any a.addr a.count s.a0 (by have := s.a1; omega) s.c0 (by have := s.c1; omega))
  rw [askV_eq]
  go_enter Tryz.func46, Tryz.ntmps46
  go_wp2_with fail
  refine (HS.out _).mono ?_
  rintro e w' ⟨rfl, rfl⟩
  go_wp2_with fail
  go_ret
  exact ⟨rfl, (Below.refl _ _).alloc (Nat.le_refl _) _⟩⟩
set_option maxHeartbeats 400000 in
theorem oneInside_ok : InsideOK 64 .one := ⟨enters_of Tryz.func64 (by kernel_rfl) rfl, fun W a h k ha s => by
  have HS := Lib.hid (stand_any a.addr 1 s.a0 (by have := s.a1; omega) (by omega) (by omega))
  rw [askV_eq]
  go_enter Tryz.func64, Tryz.ntmps64
  go_wp2_with fail
  refine (HS.out _).mono ?_
  rintro e w' ⟨rfl, rfl⟩
  go_wp2_with fail
  go_ret
  exact ⟨rfl, (Below.refl _ _).alloc (Nat.le_refl _) _⟩⟩
set_option maxHeartbeats 400000 in
theorem wordsInside_ok : InsideOK 56 .words := ⟨enters_of Tryz.func56 (by kernel_rfl) rfl, fun W a h k ha s => by
  have HS := Lib.hid (stand_any a.addr a.words.length s.a0 (by have := s.a1; omega) (by omega) (by have := s.w1; omega))
  have HN := Lib.hid ha.hn
  rw [HN.out] at HS
  rw [askV_eq]
  go_enter Tryz.func56, Tryz.ntmps56
  go_wp2_with fail
  refine (HS.out _).mono ?_
  rintro e w' ⟨rfl, rfl⟩
  go_wp2_with fail
  go_ret
  exact ⟨by unfold IK.ok; rw [HN.out]; rfl, (Below.refl _ _).alloc (Nat.le_refl _) _⟩⟩
set_option maxHeartbeats 400000 in
theorem bitsInside_ok : InsideOK 51 .bits := ⟨enters_of Tryz.func51 (by kernel_rfl) rfl, fun W a h k ha s => by
  have HS := Lib.hid (stand_any a.addr a.bits.length s.a0 (by have := s.a1; omega) (by omega) (by have := s.b1; omega))
  have HN := Lib.hid ha.kn
  rw [HN.out] at HS
  rw [askV_eq]
  go_enter Tryz.func51, Tryz.ntmps51
  go_wp2_with fail
  refine (HS.out _).mono ?_
  rintro e w' ⟨rfl, rfl⟩
  go_wp2_with fail
  go_ret
  exact ⟨by unfold IK.ok; rw [HN.out]; rfl, (Below.refl _ _).alloc (Nat.le_refl _) _⟩⟩
set_option maxHeartbeats 400000 in
theorem bothInside_ok : InsideOK 66 .both := ⟨enters_of Tryz.func66 (by kernel_rfl) rfl, fun W a h k ha s => by
  have HS := Lib.hid (stand_any a.addr a.count s.a0 (by have := s.a1; omega) s.c0 (by have := s.c1; omega))
  have HS2 := Lib.hid (stand_any a.to a.words.length s.t0 (by have := s.t1; omega) (by omega) (by have := s.w1; omega))
  have HN := Lib.hid ha.hn
  rw [HN.out] at HS2
  have HV : Hid (IK.both.ok a = (decide (a.addr + a.count ≤ 65536) && decide (a.to + h.2.1 ≤ 65536))) := Lib.hid (by unfold IK.ok; rw [HN.out])
  rw [askV_eq]
  generalize decide (a.addr + a.count ≤ 65536) = V1 at *
  generalize decide (a.to + (h.2.1 : Int) ≤ 65536) = V2 at *
  cases V1
  · go_enter Tryz.func66, Tryz.ntmps66
    go_wp2_with fail
    refine (HS.out _).mono ?_
    rintro e w' ⟨rfl, rfl⟩
    go_wp2_with fail
    go_ret
    exact ⟨by rw [HV.out]; rfl, (Below.refl _ _).alloc (Nat.le_refl _) _⟩
  · go_enter Tryz.func66, Tryz.ntmps66
    go_wp2_with fail
    refine (HS.out _).mono ?_
    rintro e w' ⟨rfl, rfl⟩
    go_wp2_with fail
    refine (HS2.out _).mono ?_
    rintro e w' ⟨rfl, rfl⟩
    go_wp2_with fail
    go_ret
    exact ⟨by rw [HV.out]; simp, (Below.refl _ _).alloc (Nat.le_refl _) _⟩⟩
set_option maxHeartbeats 400000 in
theorem always_ok : InsideOK 69 .always := ⟨enters_of Tryz.func69 (by kernel_rfl) rfl, fun W a h k ha s => by
  rw [askV_eq]
  go_enter Tryz.func69, Tryz.ntmps69
  go_wp2_with fail
  go_ret
  exact ⟨rfl, by first | exact Below.refl _ _ | exact (Below.refl _ _).alloc (Nat.le_refl _) _⟩⟩

/-- GENERATED from here on: a part's four function values. -/
structure PV where
  g1 : Nat
  g2 : Nat
  g3 : Nat
  g4 : Nat
  l1 : Array Value
  l2 : Array Value
  l3 : Array Value
  l4 : Array Value
def PV.cells (v : PV) : List Value := [.func (.func v.g1) #[] v.l1, .func (.func v.g2) #[] v.l2, .func (.func v.g3) #[] v.l3, .func (.func v.g4) #[] v.l4]
def PartAt (lo : Nat) (w : World) (p : PK) (v : PV) : Prop := ∀ w0, Since lo w w0 → PartOK w0 p v.g1 v.g2 v.g3 v.g4 v.l1 v.l2 v.l3 v.l4
def PartsAt (lo : Nat) (w : World) : List PK → List PV → Prop
  | [], [] => True
  | p :: ps, v :: vs => PartAt lo w p v ∧ PartsAt lo w ps vs
  | _, _ => False
theorem PartAt.since {lo : Nat} {w w' : World} {p : PK} {v : PV} (h : PartAt lo w p v) (hb : Since lo w w') : PartAt lo w' p v := fun w0 h0 => h w0 (hb.trans h0)
theorem PartAt.low {lo lo' : Nat} {w : World} {p : PK} {v : PV} (h : PartAt lo w p v) (hl : lo' ≤ lo) : PartAt lo' w p v := fun w0 h0 => h w0 (h0.mono hl)
theorem PartsAt.since {lo : Nat} {w w' : World} : ∀ {ps : List PK} {vs : List PV}, PartsAt lo w ps vs → Since lo w w' → PartsAt lo w' ps vs
  | [], [], _, _ => trivial
  | _ :: _, _ :: _, h, hb => ⟨h.1.since hb, PartsAt.since h.2 hb⟩
  | [], _ :: _, h, _ => h.elim
  | _ :: _, [], h, _ => h.elim
theorem PartsAt.length {lo : Nat} {w : World} : ∀ {ps : List PK} {vs : List PV}, PartsAt lo w ps vs → vs.length = ps.length
  | [], [], _ => rfl
  | _ :: _, _ :: _, h => by rw [List.length_cons, List.length_cons, PartsAt.length h.2]
  | [], _ :: _, h => h.elim
  | _ :: _, [], h => h.elim
theorem PartsAt.get {lo : Nat} {w : World} : ∀ {ps : List PK} {vs : List PV}, PartsAt lo w ps vs → ∀ j (h1 : j < ps.length) (h2 : j < vs.length), PartAt lo w ps[j] vs[j]
  | _ :: _, _ :: _, h, 0, _, _ => h.1
  | _ :: _, _ :: _, h, j + 1, h1, h2 => PartsAt.get h.2 j (by simpa using h1) (by simpa using h2)
  | [], _ :: _, h, _, _, _ => h.elim
  | _ :: _, [], h, _, _, _ => h.elim
theorem PV.cells_get : ∀ (vs : List PV) (j i : Nat) (h : j < vs.length), i < 4 → (vs.flatMap PV.cells)[4 * j + i]? = vs[j].cells[i]?
  | v :: vs, 0, i, _, hi => by
    rw [List.flatMap_cons, List.getElem?_append_left (by show 4 * 0 + i < 4; omega)]
    simp
  | v :: vs, j + 1, i, h, hi => by
    rw [List.flatMap_cons, List.getElem?_append_right (by show 4 ≤ _; omega)]
    have := PV.cells_get vs j i (by simpa using h) hi
    rw [show 4 * (j + 1) + i - v.cells.length = 4 * j + i by show 4 * (j + 1) + i - 4 = _; omega, this]
    rfl

/-- A code's layout. -/
structure LK where
  begin_ : List UInt8
  parts : List PK
  inside : IK
def layOf (c : Int) : Option LK :=
  if c = 1 ∨ c = 2 then some ⟨[UInt8.ofNat c.toNat], [.num .addr 2 0 65535, .num .count 2 1 2000], .count⟩
  else if c = 3 ∨ c = 4 then some ⟨[UInt8.ofNat c.toNat], [.num .addr 2 0 65535, .num .count 2 1 125], .count⟩
  else if c = 5 then some ⟨[5], [.num .addr 2 0 65535, .bit], .bits⟩
  else if c = 6 then some ⟨[6], [.num .addr 2 0 65535, .word], .words⟩
  else if c = 15 then some ⟨[15], [.num .addr 2 0 65535, .bits 1968], .bits⟩
  else if c = 16 then some ⟨[16], [.num .addr 2 0 65535, .words 123], .words⟩
  else if c = 22 then some ⟨[22], [.num .addr 2 0 65535, .mask .and_, .mask .or_], .one⟩
  else if c = 23 then some ⟨[23], [.num .addr 2 0 65535, .num .count 2 1 125, .num .to 2 0 65535, .words 121], .both⟩
  else if c = 43 then some ⟨[43, 14], [.num .count 1 1 4, .num .addr 1 0 255], .always⟩
  else none
/-- A layout lies in w, from the block lo on. -/
def LayIn (lo : Nat) (w : World) (L : LK) (v : Value) : Prop := ∃ A n c b m g pvs, v = .agg #[.slice A n c, .slice (some ⟨b, 0, none⟩) m m, .func (.func g) #[] #[]] ∧ L.begin_.length = n ∧ L.parts.length = m ∧ n ≤ c ∧ c ≤ maxLen ∧ Lies u8v w A L.begin_ ∧ (∀ b o s, A = some ⟨b, o, s⟩ → lo ≤ b) ∧ lo ≤ b ∧ w.heap[b]? = some (.cells (pvs.flatMap PV.cells).toArray 80 (0, 0)) ∧ InsideOK g L.inside ∧ PartsAt lo w L.parts pvs
/-- What layoutOf leaves. -/
def LayPost (w : World) (c : Int) (e : Ending) (w' : World) : Prop :=
  Below w.heap.size w w' ∧ (match layOf c with
    | none => e = .returned (.tuple #[.agg #[.slice none 0 0, .slice none 0 0, .nilFunc], .bool false])
    | some L => ∃ v, e = .returned (.tuple #[v, .bool true]) ∧ LayIn w.heap.size w' L v)
theorem row_tri {w : World} {g : Nat} {a b c : Value} {t : TypeId} (h : w.heap[g]? = some (.cells #[a, b, c] t (0, 0))) :
    w.cell? ⟨g, 0, none⟩ = some a ∧ w.cell? ⟨g, 1, none⟩ = some b ∧ w.cell? ⟨g, 2, none⟩ = some c ∧ w.frozen? ⟨g, 0, none⟩ = false ∧ w.frozen? ⟨g, 1, none⟩ = false ∧ w.frozen? ⟨g, 2, none⟩ = false := by
  simp [World.cell?, World.frozen?, h]
/-- What lies behind a store of a layout into the variable of a result. -/
theorem made3 {w W : World} {g : Nat} {t : TypeId} {a b c : Value} (h : W.heap[g]? = some (.cells #[a, b, c] t (0, 0))) (hb : Below w.heap.size w W) (hg : w.heap.size ≤ g) (x1 x2 x3 : Value) :
    (((W.setCell ⟨g, 0, none⟩ x1).setCell ⟨g, 1, none⟩ x2).setCell ⟨g, 2, none⟩ x3).heap[g]? = some (.cells #[x1, x2, x3] t (0, 0)) ∧
    Since (g + 1) W (((W.setCell ⟨g, 0, none⟩ x1).setCell ⟨g, 1, none⟩ x2).setCell ⟨g, 2, none⟩ x3) ∧
    Below w.heap.size w (((W.setCell ⟨g, 0, none⟩ x1).setCell ⟨g, 1, none⟩ x2).setCell ⟨g, 2, none⟩ x3) := by
  refine ⟨row_set (row_set (row_set h x1) x2) x3, ⟨by simp [World.setCell], fun j h1 h2 => ?_⟩, ((hb.setCell (p := ⟨g, 0, none⟩) hg x1).setCell (p := ⟨g, 1, none⟩) hg x2).setCell (p := ⟨g, 2, none⟩) hg x3⟩
  have hne : g ≠ j := by omega
  simp only [World.setCell, Array.getElem?_modify, if_neg hne]
theorem Lies.since {α : Type} {f : α → Value} {lo : Nat} {w w' : World} {A : Option Addr} {l : List α} (h : Lies f w A l) (hs : Since lo w w') (hl : ∀ b o s, A = some ⟨b, o, s⟩ → lo ≤ b) : Lies f w' A l := fun j hj => by
  obtain ⟨b, off, rfl, hc⟩ := h j hj
  exact ⟨b, off, rfl, hs.cell (p := ⟨b, off + j, none⟩) hc (hl _ _ _ rfl)⟩
theorem LayIn.since {lo : Nat} {w w' : World} {L : LK} {v : Value} (h : LayIn lo w L v) (hs : Since lo w w') : LayIn lo w' L v := by
  obtain ⟨A, n, c, b, m, g, pvs, h1, h2, h3, h4, h5, h6, h7, h8, h9, h10, h11⟩ := h
  exact ⟨A, n, c, b, m, g, pvs, h1, h2, h3, h4, h5, h6.since hs h7, h7, h8, (hs.block b h8 (row_lt h9)).trans h9, h10, h11.since hs⟩
theorem since_alloc (lo : Nat) (w : World) (o : Obj) : Since lo w (w.alloc o) := Since.of_below ((Below.refl _ _).alloc (Nat.le_refl _) o)
theorem LayIn.low {lo lo' : Nat} {w : World} {L : LK} {v : Value} (h : LayIn lo w L v) (hl : lo' ≤ lo) : LayIn lo' w L v := by
  obtain ⟨A, n, c, b, m, g, pvs, h1, h2, h3, h4, h5, h6, h7, h8, h9, h10, h11⟩ := h
  have hp : ∀ {ps : List PK} {vs : List PV}, PartsAt lo w ps vs → PartsAt lo' w ps vs := by
    intro ps
    induction ps with
    | nil => intro vs h; cases vs with
      | nil => trivial
      | cons _ _ => exact h.elim
    | cons p ps ih => intro vs h; cases vs with
      | nil => exact h.elim
      | cons v vs => exact ⟨h.1.low hl, ih h.2⟩
  exact ⟨A, n, c, b, m, g, pvs, h1, h2, h3, h4, h5, h6, fun b o s e => Nat.le_trans hl (h7 b o s e), Nat.le_trans hl h8, h9, h10, hp h11⟩
end Go.Proofs.YtcbkbdoaaaofjaaGreat

/-
  The landed ask: layoutOf, code by code.
-/
namespace Go.Proofs.YtcbkbdoaaaofjaaGreat
open Go.RowKit Go.Shelf

set_option maxRecDepth 100000 in
set_option maxHeartbeats 1000000 in
theorem lay1 (w : World) : Calls Tryz.prog 31 #[.int .i64 1] w (LayPost w 1) := by
  have r0 := row_at w #[.slice none 0 0, .slice none 0 0, .nilFunc] 63 w.heap.size rfl
  have hl : Lies u8v ((w.alloc (.cells #[.slice none 0 0, .slice none 0 0, .nilFunc] 63)).alloc (.cells #[.int .u8 1] 5)) (some ⟨w.heap.size + 1, 0, none⟩) [1] := lies_at (w.alloc (.cells #[.slice none 0 0, .slice none 0 0, .nilFunc] 63)) _ _ _ _ rfl (by simp)
  have hb2 : Below w.heap.size w ((w.alloc (.cells #[.slice none 0 0, .slice none 0 0, .nilFunc] 63)).alloc (.cells #[.int .u8 1] 5)) := ((Below.refl _ w).alloc (Nat.le_refl _) _).alloc (by simp) _
  have hz2 : ((w.alloc (.cells #[.slice none 0 0, .slice none 0 0, .nilFunc] 63)).alloc (.cells #[.int .u8 1] 5)).heap.size = w.heap.size + 1 + 1 := by simp
  have r2 := old_at r0 (.cells #[.int .u8 1] 5)
  have HC0 := Lib.hid (fun w => addr_make w)
  have HC1 := Lib.hid (fun w => count_make 2000 (by omega) w)
  have hfr : ∀ b o s, (some ⟨w.heap.size + 1, 0, none⟩ : Option Addr) = some ⟨b, o, s⟩ → w.heap.size + 1 ≤ b := fun b o s e => by cases e; exact Nat.le_refl _
  go_enter Tryz.func31, Tryz.ntmps31
  go_wp2_with fail
  refine (HC0.out _).mono ?_
  rintro e v0 ⟨vs, rfl, hP, hb⟩
  obtain ⟨g01, g02, g03, g04, l01, l02, l03, l04, rfl, hp⟩ := hP
  have hp0 := PartAt.low (v := ⟨g01, g02, g03, g04, l01, l02, l03, l04⟩) hp (lo' := w.heap.size + 1) (by simp)
  have hbb0 := hb2.trans (hb.mono hb2.size)
  have rr0 := row_later r2 hb
  have sn0 : Since (w.heap.size + 1) _ v0 := Since.of_below hb
  clear hp hb
  go_wp2_with fail
  refine (HC1.out _).mono ?_
  rintro e v1 ⟨vs, rfl, hP, hb⟩
  obtain ⟨g11, g12, g13, g14, l11, l12, l13, l14, rfl, hp⟩ := hP
  have hp1 := PartAt.low (v := ⟨g11, g12, g13, g14, l11, l12, l13, l14⟩) hp (lo' := w.heap.size + 1) (row_lt rr0)
  have hbb1 := hbb0.trans (hb.mono hbb0.size)
  have rr1 := row_later rr0 hb
  have sn1 : Since (w.heap.size + 1) _ v1 := Since.of_below hb
  clear hp hb
  have r5 := old_at rr1 (.cells #[.func (.func g01) #[] l01, .func (.func g02) #[] l02, .func (.func g03) #[] l03, .func (.func g04) #[] l04, .func (.func g11) #[] l11, .func (.func g12) #[] l12, .func (.func g13) #[] l13, .func (.func g14) #[] l14] 80)
  have hb5 : Below w.heap.size w (v1.alloc (.cells #[.func (.func g01) #[] l01, .func (.func g02) #[] l02, .func (.func g03) #[] l03, .func (.func g04) #[] l04, .func (.func g11) #[] l11, .func (.func g12) #[] l12, .func (.func g13) #[] l13, .func (.func g14) #[] l14] 80)) := hbb1.alloc hbb1.size _
  obtain ⟨m1, m2, m3⟩ := made3 r5 hb5 (Nat.le_refl _) (.slice (some ⟨w.heap.size + 1, 0, none⟩) 1 1) (.slice (some ⟨v1.heap.size, 0, none⟩) 2 2) (.func (.func 46) #[] #[])
  obtain ⟨z0, z1, z2, y0, y1, y2⟩ := row_tri r5
  obtain ⟨x0, x1, x2, _⟩ := row_tri m1
  have HL : Hid (LayIn (w.heap.size + 1) (v1.alloc (.cells #[.func (.func g01) #[] l01, .func (.func g02) #[] l02, .func (.func g03) #[] l03, .func (.func g04) #[] l04, .func (.func g11) #[] l11, .func (.func g12) #[] l12, .func (.func g13) #[] l13, .func (.func g14) #[] l14] 80)) ⟨[1],  [.num .addr 2 0 65535, .num .count 2 1 2000], .count⟩ (.agg #[.slice (some ⟨w.heap.size + 1, 0, none⟩) 1 1, .slice (some ⟨v1.heap.size, 0, none⟩) 2 2, .func (.func 46) #[] #[]])) := Lib.hid (by
    refine ⟨_, _, _, _, _, _, [⟨g01, g02, g03, g04, l01, l02, l03, l04⟩, ⟨g11, g12, g13, g14, l11, l12, l13, l14⟩], rfl, rfl, rfl, by omega, by unfold maxLen; omega, ?_, ?_, ?_, row_at v1 _ _ _ rfl, countInside_ok, ?_⟩
    · exact ((hl.since sn0 hfr).since sn1 hfr).since (since_alloc _ _ _) hfr
    · exact hfr
    · have := hbb1.size
      have := row_lt rr1
      omega
    · exact ⟨((hp0.since sn1).since (since_alloc _ _ _)), (hp1.since (since_alloc _ _ _)), trivial⟩)
  have HF := Lib.hid (HL.out.since m2)
  have HB := Lib.hid m3
  clear HL m1 m2 m3 r5 hb5 rr0 hbb0 hp0 sn0 rr1 hbb1 hp1 sn1
  go_wp2_with fail
  refine bodyPost_ret_by (v := .tuple #[.agg #[.slice (some ⟨w.heap.size + 1, 0, none⟩) 1 1, .slice (some ⟨v1.heap.size, 0, none⟩) 2 2, .func (.func 46) #[] #[]], .bool true]) (by simp [results, Tryz.f31, go_sem, x0, x1, x2]) rfl ?_
  exact ⟨HB.out, _, rfl, HF.out.low (by omega)⟩

set_option maxRecDepth 100000 in
set_option maxHeartbeats 1000000 in
theorem lay2 (w : World) : Calls Tryz.prog 31 #[.int .i64 2] w (LayPost w 2) := by
  have r0 := row_at w #[.slice none 0 0, .slice none 0 0, .nilFunc] 63 w.heap.size rfl
  have hl : Lies u8v ((w.alloc (.cells #[.slice none 0 0, .slice none 0 0, .nilFunc] 63)).alloc (.cells #[.int .u8 2] 5)) (some ⟨w.heap.size + 1, 0, none⟩) [2] := lies_at (w.alloc (.cells #[.slice none 0 0, .slice none 0 0, .nilFunc] 63)) _ _ _ _ rfl (by simp)
  have hb2 : Below w.heap.size w ((w.alloc (.cells #[.slice none 0 0, .slice none 0 0, .nilFunc] 63)).alloc (.cells #[.int .u8 2] 5)) := ((Below.refl _ w).alloc (Nat.le_refl _) _).alloc (by simp) _
  have hz2 : ((w.alloc (.cells #[.slice none 0 0, .slice none 0 0, .nilFunc] 63)).alloc (.cells #[.int .u8 2] 5)).heap.size = w.heap.size + 1 + 1 := by simp
  have r2 := old_at r0 (.cells #[.int .u8 2] 5)
  have HC0 := Lib.hid (fun w => addr_make w)
  have HC1 := Lib.hid (fun w => count_make 2000 (by omega) w)
  have hfr : ∀ b o s, (some ⟨w.heap.size + 1, 0, none⟩ : Option Addr) = some ⟨b, o, s⟩ → w.heap.size + 1 ≤ b := fun b o s e => by cases e; exact Nat.le_refl _
  go_enter Tryz.func31, Tryz.ntmps31
  go_wp2_with fail
  refine (HC0.out _).mono ?_
  rintro e v0 ⟨vs, rfl, hP, hb⟩
  obtain ⟨g01, g02, g03, g04, l01, l02, l03, l04, rfl, hp⟩ := hP
  have hp0 := PartAt.low (v := ⟨g01, g02, g03, g04, l01, l02, l03, l04⟩) hp (lo' := w.heap.size + 1) (by simp)
  have hbb0 := hb2.trans (hb.mono hb2.size)
  have rr0 := row_later r2 hb
  have sn0 : Since (w.heap.size + 1) _ v0 := Since.of_below hb
  clear hp hb
  go_wp2_with fail
  refine (HC1.out _).mono ?_
  rintro e v1 ⟨vs, rfl, hP, hb⟩
  obtain ⟨g11, g12, g13, g14, l11, l12, l13, l14, rfl, hp⟩ := hP
  have hp1 := PartAt.low (v := ⟨g11, g12, g13, g14, l11, l12, l13, l14⟩) hp (lo' := w.heap.size + 1) (row_lt rr0)
  have hbb1 := hbb0.trans (hb.mono hbb0.size)
  have rr1 := row_later rr0 hb
  have sn1 : Since (w.heap.size + 1) _ v1 := Since.of_below hb
  clear hp hb
  have r5 := old_at rr1 (.cells #[.func (.func g01) #[] l01, .func (.func g02) #[] l02, .func (.func g03) #[] l03, .func (.func g04) #[] l04, .func (.func g11) #[] l11, .func (.func g12) #[] l12, .func (.func g13) #[] l13, .func (.func g14) #[] l14] 80)
  have hb5 : Below w.heap.size w (v1.alloc (.cells #[.func (.func g01) #[] l01, .func (.func g02) #[] l02, .func (.func g03) #[] l03, .func (.func g04) #[] l04, .func (.func g11) #[] l11, .func (.func g12) #[] l12, .func (.func g13) #[] l13, .func (.func g14) #[] l14] 80)) := hbb1.alloc hbb1.size _
  obtain ⟨m1, m2, m3⟩ := made3 r5 hb5 (Nat.le_refl _) (.slice (some ⟨w.heap.size + 1, 0, none⟩) 1 1) (.slice (some ⟨v1.heap.size, 0, none⟩) 2 2) (.func (.func 46) #[] #[])
  obtain ⟨z0, z1, z2, y0, y1, y2⟩ := row_tri r5
  obtain ⟨x0, x1, x2, _⟩ := row_tri m1
  have HL : Hid (LayIn (w.heap.size + 1) (v1.alloc (.cells #[.func (.func g01) #[] l01, .func (.func g02) #[] l02, .func (.func g03) #[] l03, .func (.func g04) #[] l04, .func (.func g11) #[] l11, .func (.func g12) #[] l12, .func (.func g13) #[] l13, .func (.func g14) #[] l14] 80)) ⟨[2],  [.num .addr 2 0 65535, .num .count 2 1 2000], .count⟩ (.agg #[.slice (some ⟨w.heap.size + 1, 0, none⟩) 1 1, .slice (some ⟨v1.heap.size, 0, none⟩) 2 2, .func (.func 46) #[] #[]])) := Lib.hid (by
    refine ⟨_, _, _, _, _, _, [⟨g01, g02, g03, g04, l01, l02, l03, l04⟩, ⟨g11, g12, g13, g14, l11, l12, l13, l14⟩], rfl, rfl, rfl, by omega, by unfold maxLen; omega, ?_, ?_, ?_, row_at v1 _ _ _ rfl, countInside_ok, ?_⟩
    · exact ((hl.since sn0 hfr).since sn1 hfr).since (since_alloc _ _ _) hfr
    · exact hfr
    · have := hbb1.size
      have := row_lt rr1
      omega
    · exact ⟨((hp0.since sn1).since (since_alloc _ _ _)), (hp1.since (since_alloc _ _ _)), trivial⟩)
  have HF := Lib.hid (HL.out.since m2)
  have HB := Lib.hid m3
  clear HL m1 m2 m3 r5 hb5 rr0 hbb0 hp0 sn0 rr1 hbb1 hp1 sn1
  go_wp2_with fail
  refine bodyPost_ret_by (v := .tuple #[.agg #[.slice (some ⟨w.heap.size + 1, 0, none⟩) 1 1, .slice (some ⟨v1.heap.size, 0, none⟩) 2 2, .func (.func 46) #[] #[]], .bool true]) (by simp [results, Tryz.f31, go_sem, x0, x1, x2]) rfl ?_
  exact ⟨HB.out, _, rfl, HF.out.low (by omega)⟩

set_option maxRecDepth 100000 in
set_option maxHeartbeats 1000000 in
theorem lay3 (w : World) : Calls Tryz.prog 31 #[.int .i64 3] w (LayPost w 3) := by
  have r0 := row_at w #[.slice none 0 0, .slice none 0 0, .nilFunc] 63 w.heap.size rfl
  have hl : Lies u8v ((w.alloc (.cells #[.slice none 0 0, .slice none 0 0, .nilFunc] 63)).alloc (.cells #[.int .u8 3] 5)) (some ⟨w.heap.size + 1, 0, none⟩) [3] := lies_at (w.alloc (.cells #[.slice none 0 0, .slice none 0 0, .nilFunc] 63)) _ _ _ _ rfl (by simp)
  have hb2 : Below w.heap.size w ((w.alloc (.cells #[.slice none 0 0, .slice none 0 0, .nilFunc] 63)).alloc (.cells #[.int .u8 3] 5)) := ((Below.refl _ w).alloc (Nat.le_refl _) _).alloc (by simp) _
  have hz2 : ((w.alloc (.cells #[.slice none 0 0, .slice none 0 0, .nilFunc] 63)).alloc (.cells #[.int .u8 3] 5)).heap.size = w.heap.size + 1 + 1 := by simp
  have r2 := old_at r0 (.cells #[.int .u8 3] 5)
  have HC0 := Lib.hid (fun w => addr_make w)
  have HC1 := Lib.hid (fun w => count_make 125 (by omega) w)
  have hfr : ∀ b o s, (some ⟨w.heap.size + 1, 0, none⟩ : Option Addr) = some ⟨b, o, s⟩ → w.heap.size + 1 ≤ b := fun b o s e => by cases e; exact Nat.le_refl _
  go_enter Tryz.func31, Tryz.ntmps31
  go_wp2_with fail
  refine (HC0.out _).mono ?_
  rintro e v0 ⟨vs, rfl, hP, hb⟩
  obtain ⟨g01, g02, g03, g04, l01, l02, l03, l04, rfl, hp⟩ := hP
  have hp0 := PartAt.low (v := ⟨g01, g02, g03, g04, l01, l02, l03, l04⟩) hp (lo' := w.heap.size + 1) (by simp)
  have hbb0 := hb2.trans (hb.mono hb2.size)
  have rr0 := row_later r2 hb
  have sn0 : Since (w.heap.size + 1) _ v0 := Since.of_below hb
  clear hp hb
  go_wp2_with fail
  refine (HC1.out _).mono ?_
  rintro e v1 ⟨vs, rfl, hP, hb⟩
  obtain ⟨g11, g12, g13, g14, l11, l12, l13, l14, rfl, hp⟩ := hP
  have hp1 := PartAt.low (v := ⟨g11, g12, g13, g14, l11, l12, l13, l14⟩) hp (lo' := w.heap.size + 1) (row_lt rr0)
  have hbb1 := hbb0.trans (hb.mono hbb0.size)
  have rr1 := row_later rr0 hb
  have sn1 : Since (w.heap.size + 1) _ v1 := Since.of_below hb
  clear hp hb
  have r5 := old_at rr1 (.cells #[.func (.func g01) #[] l01, .func (.func g02) #[] l02, .func (.func g03) #[] l03, .func (.func g04) #[] l04, .func (.func g11) #[] l11, .func (.func g12) #[] l12, .func (.func g13) #[] l13, .func (.func g14) #[] l14] 80)
  have hb5 : Below w.heap.size w (v1.alloc (.cells #[.func (.func g01) #[] l01, .func (.func g02) #[] l02, .func (.func g03) #[] l03, .func (.func g04) #[] l04, .func (.func g11) #[] l11, .func (.func g12) #[] l12, .func (.func g13) #[] l13, .func (.func g14) #[] l14] 80)) := hbb1.alloc hbb1.size _
  obtain ⟨m1, m2, m3⟩ := made3 r5 hb5 (Nat.le_refl _) (.slice (some ⟨w.heap.size + 1, 0, none⟩) 1 1) (.slice (some ⟨v1.heap.size, 0, none⟩) 2 2) (.func (.func 46) #[] #[])
  obtain ⟨z0, z1, z2, y0, y1, y2⟩ := row_tri r5
  obtain ⟨x0, x1, x2, _⟩ := row_tri m1
  have HL : Hid (LayIn (w.heap.size + 1) (v1.alloc (.cells #[.func (.func g01) #[] l01, .func (.func g02) #[] l02, .func (.func g03) #[] l03, .func (.func g04) #[] l04, .func (.func g11) #[] l11, .func (.func g12) #[] l12, .func (.func g13) #[] l13, .func (.func g14) #[] l14] 80)) ⟨[3],  [.num .addr 2 0 65535, .num .count 2 1 125], .count⟩ (.agg #[.slice (some ⟨w.heap.size + 1, 0, none⟩) 1 1, .slice (some ⟨v1.heap.size, 0, none⟩) 2 2, .func (.func 46) #[] #[]])) := Lib.hid (by
    refine ⟨_, _, _, _, _, _, [⟨g01, g02, g03, g04, l01, l02, l03, l04⟩, ⟨g11, g12, g13, g14, l11, l12, l13, l14⟩], rfl, rfl, rfl, by omega, by unfold maxLen; omega, ?_, ?_, ?_, row_at v1 _ _ _ rfl, countInside_ok, ?_⟩
    · exact ((hl.since sn0 hfr).since sn1 hfr).since (since_alloc _ _ _) hfr
    · exact hfr
    · have := hbb1.size
      have := row_lt rr1
      omega
    · exact ⟨((hp0.since sn1).since (since_alloc _ _ _)), (hp1.since (since_alloc _ _ _)), trivial⟩)
  have HF := Lib.hid (HL.out.since m2)
  have HB := Lib.hid m3
  clear HL m1 m2 m3 r5 hb5 rr0 hbb0 hp0 sn0 rr1 hbb1 hp1 sn1
  go_wp2_with fail
  refine bodyPost_ret_by (v := .tuple #[.agg #[.slice (some ⟨w.heap.size + 1, 0, none⟩) 1 1, .slice (some ⟨v1.heap.size, 0, none⟩) 2 2, .func (.func 46) #[] #[]], .bool true]) (by simp [results, Tryz.f31, go_sem, x0, x1, x2]) rfl ?_
  exact ⟨HB.out, _, rfl, HF.out.low (by omega)⟩

set_option maxRecDepth 100000 in
set_option maxHeartbeats 1000000 in
theorem lay4 (w : World) : Calls Tryz.prog 31 #[.int .i64 4] w (LayPost w 4) := by
  have r0 := row_at w #[.slice none 0 0, .slice none 0 0, .nilFunc] 63 w.heap.size rfl
  have hl : Lies u8v ((w.alloc (.cells #[.slice none 0 0, .slice none 0 0, .nilFunc] 63)).alloc (.cells #[.int .u8 4] 5)) (some ⟨w.heap.size + 1, 0, none⟩) [4] := lies_at (w.alloc (.cells #[.slice none 0 0, .slice none 0 0, .nilFunc] 63)) _ _ _ _ rfl (by simp)
  have hb2 : Below w.heap.size w ((w.alloc (.cells #[.slice none 0 0, .slice none 0 0, .nilFunc] 63)).alloc (.cells #[.int .u8 4] 5)) := ((Below.refl _ w).alloc (Nat.le_refl _) _).alloc (by simp) _
  have hz2 : ((w.alloc (.cells #[.slice none 0 0, .slice none 0 0, .nilFunc] 63)).alloc (.cells #[.int .u8 4] 5)).heap.size = w.heap.size + 1 + 1 := by simp
  have r2 := old_at r0 (.cells #[.int .u8 4] 5)
  have HC0 := Lib.hid (fun w => addr_make w)
  have HC1 := Lib.hid (fun w => count_make 125 (by omega) w)
  have hfr : ∀ b o s, (some ⟨w.heap.size + 1, 0, none⟩ : Option Addr) = some ⟨b, o, s⟩ → w.heap.size + 1 ≤ b := fun b o s e => by cases e; exact Nat.le_refl _
  go_enter Tryz.func31, Tryz.ntmps31
  go_wp2_with fail
  refine (HC0.out _).mono ?_
  rintro e v0 ⟨vs, rfl, hP, hb⟩
  obtain ⟨g01, g02, g03, g04, l01, l02, l03, l04, rfl, hp⟩ := hP
  have hp0 := PartAt.low (v := ⟨g01, g02, g03, g04, l01, l02, l03, l04⟩) hp (lo' := w.heap.size + 1) (by simp)
  have hbb0 := hb2.trans (hb.mono hb2.size)
  have rr0 := row_later r2 hb
  have sn0 : Since (w.heap.size + 1) _ v0 := Since.of_below hb
  clear hp hb
  go_wp2_with fail
  refine (HC1.out _).mono ?_
  rintro e v1 ⟨vs, rfl, hP, hb⟩
  obtain ⟨g11, g12, g13, g14, l11, l12, l13, l14, rfl, hp⟩ := hP
  have hp1 := PartAt.low (v := ⟨g11, g12, g13, g14, l11, l12, l13, l14⟩) hp (lo' := w.heap.size + 1) (row_lt rr0)
  have hbb1 := hbb0.trans (hb.mono hbb0.size)
  have rr1 := row_later rr0 hb
  have sn1 : Since (w.heap.size + 1) _ v1 := Since.of_below hb
  clear hp hb
  have r5 := old_at rr1 (.cells #[.func (.func g01) #[] l01, .func (.func g02) #[] l02, .func (.func g03) #[] l03, .func (.func g04) #[] l04, .func (.func g11) #[] l11, .func (.func g12) #[] l12, .func (.func g13) #[] l13, .func (.func g14) #[] l14] 80)
  have hb5 : Below w.heap.size w (v1.alloc (.cells #[.func (.func g01) #[] l01, .func (.func g02) #[] l02, .func (.func g03) #[] l03, .func (.func g04) #[] l04, .func (.func g11) #[] l11, .func (.func g12) #[] l12, .func (.func g13) #[] l13, .func (.func g14) #[] l14] 80)) := hbb1.alloc hbb1.size _
  obtain ⟨m1, m2, m3⟩ := made3 r5 hb5 (Nat.le_refl _) (.slice (some ⟨w.heap.size + 1, 0, none⟩) 1 1) (.slice (some ⟨v1.heap.size, 0, none⟩) 2 2) (.func (.func 46) #[] #[])
  obtain ⟨z0, z1, z2, y0, y1, y2⟩ := row_tri r5
  obtain ⟨x0, x1, x2, _⟩ := row_tri m1
  have HL : Hid (LayIn (w.heap.size + 1) (v1.alloc (.cells #[.func (.func g01) #[] l01, .func (.func g02) #[] l02, .func (.func g03) #[] l03, .func (.func g04) #[] l04, .func (.func g11) #[] l11, .func (.func g12) #[] l12, .func (.func g13) #[] l13, .func (.func g14) #[] l14] 80)) ⟨[4],  [.num .addr 2 0 65535, .num .count 2 1 125], .count⟩ (.agg #[.slice (some ⟨w.heap.size + 1, 0, none⟩) 1 1, .slice (some ⟨v1.heap.size, 0, none⟩) 2 2, .func (.func 46) #[] #[]])) := Lib.hid (by
    refine ⟨_, _, _, _, _, _, [⟨g01, g02, g03, g04, l01, l02, l03, l04⟩, ⟨g11, g12, g13, g14, l11, l12, l13, l14⟩], rfl, rfl, rfl, by omega, by unfold maxLen; omega, ?_, ?_, ?_, row_at v1 _ _ _ rfl, countInside_ok, ?_⟩
    · exact ((hl.since sn0 hfr).since sn1 hfr).since (since_alloc _ _ _) hfr
    · exact hfr
    · have := hbb1.size
      have := row_lt rr1
      omega
    · exact ⟨((hp0.since sn1).since (since_alloc _ _ _)), (hp1.since (since_alloc _ _ _)), trivial⟩)
  have HF := Lib.hid (HL.out.since m2)
  have HB := Lib.hid m3
  clear HL m1 m2 m3 r5 hb5 rr0 hbb0 hp0 sn0 rr1 hbb1 hp1 sn1
  go_wp2_with fail
  refine bodyPost_ret_by (v := .tuple #[.agg #[.slice (some ⟨w.heap.size + 1, 0, none⟩) 1 1, .slice (some ⟨v1.heap.size, 0, none⟩) 2 2, .func (.func 46) #[] #[]], .bool true]) (by simp [results, Tryz.f31, go_sem, x0, x1, x2]) rfl ?_
  exact ⟨HB.out, _, rfl, HF.out.low (by omega)⟩

set_option maxRecDepth 100000 in
set_option maxHeartbeats 1000000 in
theorem lay5 (w : World) : Calls Tryz.prog 31 #[.int .i64 5] w (LayPost w 5) := by
  have r0 := row_at w #[.slice none 0 0, .slice none 0 0, .nilFunc] 63 w.heap.size rfl
  have hl : Lies u8v ((w.alloc (.cells #[.slice none 0 0, .slice none 0 0, .nilFunc] 63)).alloc (.cells #[.int .u8 5] 5)) (some ⟨w.heap.size + 1, 0, none⟩) [5] := lies_at (w.alloc (.cells #[.slice none 0 0, .slice none 0 0, .nilFunc] 63)) _ _ _ _ rfl (by simp)
  have hb2 : Below w.heap.size w ((w.alloc (.cells #[.slice none 0 0, .slice none 0 0, .nilFunc] 63)).alloc (.cells #[.int .u8 5] 5)) := ((Below.refl _ w).alloc (Nat.le_refl _) _).alloc (by simp) _
  have hz2 : ((w.alloc (.cells #[.slice none 0 0, .slice none 0 0, .nilFunc] 63)).alloc (.cells #[.int .u8 5] 5)).heap.size = w.heap.size + 1 + 1 := by simp
  have r2 := old_at r0 (.cells #[.int .u8 5] 5)
  have HC0 := Lib.hid (fun w => addr_make w)
  have HC1 := Lib.hid (fun w => siB_make w)
  have hfr : ∀ b o s, (some ⟨w.heap.size + 1, 0, none⟩ : Option Addr) = some ⟨b, o, s⟩ → w.heap.size + 1 ≤ b := fun b o s e => by cases e; exact Nat.le_refl _
  go_enter Tryz.func31, Tryz.ntmps31
  go_wp2_with fail
  refine (HC0.out _).mono ?_
  rintro e v0 ⟨vs, rfl, hP, hb⟩
  obtain ⟨g01, g02, g03, g04, l01, l02, l03, l04, rfl, hp⟩ := hP
  have hp0 := PartAt.low (v := ⟨g01, g02, g03, g04, l01, l02, l03, l04⟩) hp (lo' := w.heap.size + 1) (by simp)
  have hbb0 := hb2.trans (hb.mono hb2.size)
  have rr0 := row_later r2 hb
  have sn0 : Since (w.heap.size + 1) _ v0 := Since.of_below hb
  clear hp hb
  go_wp2_with fail
  refine (HC1.out _).mono ?_
  rintro e v1 ⟨vs, rfl, hP, hb⟩
  obtain ⟨g11, g12, g13, g14, l11, l12, l13, l14, rfl, hp⟩ := hP
  have hp1 := PartAt.low (v := ⟨g11, g12, g13, g14, l11, l12, l13, l14⟩) hp (lo' := w.heap.size + 1) (row_lt rr0)
  have hbb1 := hbb0.trans (hb.mono hbb0.size)
  have rr1 := row_later rr0 hb
  have sn1 : Since (w.heap.size + 1) _ v1 := Since.of_below hb
  clear hp hb
  have r5 := old_at rr1 (.cells #[.func (.func g01) #[] l01, .func (.func g02) #[] l02, .func (.func g03) #[] l03, .func (.func g04) #[] l04, .func (.func g11) #[] l11, .func (.func g12) #[] l12, .func (.func g13) #[] l13, .func (.func g14) #[] l14] 80)
  have hb5 : Below w.heap.size w (v1.alloc (.cells #[.func (.func g01) #[] l01, .func (.func g02) #[] l02, .func (.func g03) #[] l03, .func (.func g04) #[] l04, .func (.func g11) #[] l11, .func (.func g12) #[] l12, .func (.func g13) #[] l13, .func (.func g14) #[] l14] 80)) := hbb1.alloc hbb1.size _
  obtain ⟨m1, m2, m3⟩ := made3 r5 hb5 (Nat.le_refl _) (.slice (some ⟨w.heap.size + 1, 0, none⟩) 1 1) (.slice (some ⟨v1.heap.size, 0, none⟩) 2 2) (.func (.func 51) #[] #[])
  obtain ⟨z0, z1, z2, y0, y1, y2⟩ := row_tri r5
  obtain ⟨x0, x1, x2, _⟩ := row_tri m1
  have HL : Hid (LayIn (w.heap.size + 1) (v1.alloc (.cells #[.func (.func g01) #[] l01, .func (.func g02) #[] l02, .func (.func g03) #[] l03, .func (.func g04) #[] l04, .func (.func g11) #[] l11, .func (.func g12) #[] l12, .func (.func g13) #[] l13, .func (.func g14) #[] l14] 80)) ⟨[5],  [.num .addr 2 0 65535, .bit], .bits⟩ (.agg #[.slice (some ⟨w.heap.size + 1, 0, none⟩) 1 1, .slice (some ⟨v1.heap.size, 0, none⟩) 2 2, .func (.func 51) #[] #[]])) := Lib.hid (by
    refine ⟨_, _, _, _, _, _, [⟨g01, g02, g03, g04, l01, l02, l03, l04⟩, ⟨g11, g12, g13, g14, l11, l12, l13, l14⟩], rfl, rfl, rfl, by omega, by unfold maxLen; omega, ?_, ?_, ?_, row_at v1 _ _ _ rfl, bitsInside_ok, ?_⟩
    · exact ((hl.since sn0 hfr).since sn1 hfr).since (since_alloc _ _ _) hfr
    · exact hfr
    · have := hbb1.size
      have := row_lt rr1
      omega
    · exact ⟨((hp0.since sn1).since (since_alloc _ _ _)), (hp1.since (since_alloc _ _ _)), trivial⟩)
  have HF := Lib.hid (HL.out.since m2)
  have HB := Lib.hid m3
  clear HL m1 m2 m3 r5 hb5 rr0 hbb0 hp0 sn0 rr1 hbb1 hp1 sn1
  go_wp2_with fail
  refine bodyPost_ret_by (v := .tuple #[.agg #[.slice (some ⟨w.heap.size + 1, 0, none⟩) 1 1, .slice (some ⟨v1.heap.size, 0, none⟩) 2 2, .func (.func 51) #[] #[]], .bool true]) (by simp [results, Tryz.f31, go_sem, x0, x1, x2]) rfl ?_
  exact ⟨HB.out, _, rfl, HF.out.low (by omega)⟩

set_option maxRecDepth 100000 in
set_option maxHeartbeats 1000000 in
theorem lay6 (w : World) : Calls Tryz.prog 31 #[.int .i64 6] w (LayPost w 6) := by
  have r0 := row_at w #[.slice none 0 0, .slice none 0 0, .nilFunc] 63 w.heap.size rfl
  have hl : Lies u8v ((w.alloc (.cells #[.slice none 0 0, .slice none 0 0, .nilFunc] 63)).alloc (.cells #[.int .u8 6] 5)) (some ⟨w.heap.size + 1, 0, none⟩) [6] := lies_at (w.alloc (.cells #[.slice none 0 0, .slice none 0 0, .nilFunc] 63)) _ _ _ _ rfl (by simp)
  have hb2 : Below w.heap.size w ((w.alloc (.cells #[.slice none 0 0, .slice none 0 0, .nilFunc] 63)).alloc (.cells #[.int .u8 6] 5)) := ((Below.refl _ w).alloc (Nat.le_refl _) _).alloc (by simp) _
  have hz2 : ((w.alloc (.cells #[.slice none 0 0, .slice none 0 0, .nilFunc] 63)).alloc (.cells #[.int .u8 6] 5)).heap.size = w.heap.size + 1 + 1 := by simp
  have r2 := old_at r0 (.cells #[.int .u8 6] 5)
  have HC0 := Lib.hid (fun w => addr_make w)
  have HC1 := Lib.hid (fun w => siW_make w)
  have hfr : ∀ b o s, (some ⟨w.heap.size + 1, 0, none⟩ : Option Addr) = some ⟨b, o, s⟩ → w.heap.size + 1 ≤ b := fun b o s e => by cases e; exact Nat.le_refl _
  go_enter Tryz.func31, Tryz.ntmps31
  go_wp2_with fail
  refine (HC0.out _).mono ?_
  rintro e v0 ⟨vs, rfl, hP, hb⟩
  obtain ⟨g01, g02, g03, g04, l01, l02, l03, l04, rfl, hp⟩ := hP
  have hp0 := PartAt.low (v := ⟨g01, g02, g03, g04, l01, l02, l03, l04⟩) hp (lo' := w.heap.size + 1) (by simp)
  have hbb0 := hb2.trans (hb.mono hb2.size)
  have rr0 := row_later r2 hb
  have sn0 : Since (w.heap.size + 1) _ v0 := Since.of_below hb
  clear hp hb
  go_wp2_with fail
  refine (HC1.out _).mono ?_
  rintro e v1 ⟨vs, rfl, hP, hb⟩
  obtain ⟨g11, g12, g13, g14, l11, l12, l13, l14, rfl, hp⟩ := hP
  have hp1 := PartAt.low (v := ⟨g11, g12, g13, g14, l11, l12, l13, l14⟩) hp (lo' := w.heap.size + 1) (row_lt rr0)
  have hbb1 := hbb0.trans (hb.mono hbb0.size)
  have rr1 := row_later rr0 hb
  have sn1 : Since (w.heap.size + 1) _ v1 := Since.of_below hb
  clear hp hb
  have r5 := old_at rr1 (.cells #[.func (.func g01) #[] l01, .func (.func g02) #[] l02, .func (.func g03) #[] l03, .func (.func g04) #[] l04, .func (.func g11) #[] l11, .func (.func g12) #[] l12, .func (.func g13) #[] l13, .func (.func g14) #[] l14] 80)
  have hb5 : Below w.heap.size w (v1.alloc (.cells #[.func (.func g01) #[] l01, .func (.func g02) #[] l02, .func (.func g03) #[] l03, .func (.func g04) #[] l04, .func (.func g11) #[] l11, .func (.func g12) #[] l12, .func (.func g13) #[] l13, .func (.func g14) #[] l14] 80)) := hbb1.alloc hbb1.size _
  obtain ⟨m1, m2, m3⟩ := made3 r5 hb5 (Nat.le_refl _) (.slice (some ⟨w.heap.size + 1, 0, none⟩) 1 1) (.slice (some ⟨v1.heap.size, 0, none⟩) 2 2) (.func (.func 56) #[] #[])
  obtain ⟨z0, z1, z2, y0, y1, y2⟩ := row_tri r5
  obtain ⟨x0, x1, x2, _⟩ := row_tri m1
  have HL : Hid (LayIn (w.heap.size + 1) (v1.alloc (.cells #[.func (.func g01) #[] l01, .func (.func g02) #[] l02, .func (.func g03) #[] l03, .func (.func g04) #[] l04, .func (.func g11) #[] l11, .func (.func g12) #[] l12, .func (.func g13) #[] l13, .func (.func g14) #[] l14] 80)) ⟨[6],  [.num .addr 2 0 65535, .word], .words⟩ (.agg #[.slice (some ⟨w.heap.size + 1, 0, none⟩) 1 1, .slice (some ⟨v1.heap.size, 0, none⟩) 2 2, .func (.func 56) #[] #[]])) := Lib.hid (by
    refine ⟨_, _, _, _, _, _, [⟨g01, g02, g03, g04, l01, l02, l03, l04⟩, ⟨g11, g12, g13, g14, l11, l12, l13, l14⟩], rfl, rfl, rfl, by omega, by unfold maxLen; omega, ?_, ?_, ?_, row_at v1 _ _ _ rfl, wordsInside_ok, ?_⟩
    · exact ((hl.since sn0 hfr).since sn1 hfr).since (since_alloc _ _ _) hfr
    · exact hfr
    · have := hbb1.size
      have := row_lt rr1
      omega
    · exact ⟨((hp0.since sn1).since (since_alloc _ _ _)), (hp1.since (since_alloc _ _ _)), trivial⟩)
  have HF := Lib.hid (HL.out.since m2)
  have HB := Lib.hid m3
  clear HL m1 m2 m3 r5 hb5 rr0 hbb0 hp0 sn0 rr1 hbb1 hp1 sn1
  go_wp2_with fail
  refine bodyPost_ret_by (v := .tuple #[.agg #[.slice (some ⟨w.heap.size + 1, 0, none⟩) 1 1, .slice (some ⟨v1.heap.size, 0, none⟩) 2 2, .func (.func 56) #[] #[]], .bool true]) (by simp [results, Tryz.f31, go_sem, x0, x1, x2]) rfl ?_
  exact ⟨HB.out, _, rfl, HF.out.low (by omega)⟩

set_option maxRecDepth 100000 in
set_option maxHeartbeats 1000000 in
theorem lay15 (w : World) : Calls Tryz.prog 31 #[.int .i64 15] w (LayPost w 15) := by
  have r0 := row_at w #[.slice none 0 0, .slice none 0 0, .nilFunc] 63 w.heap.size rfl
  have hl : Lies u8v ((w.alloc (.cells #[.slice none 0 0, .slice none 0 0, .nilFunc] 63)).alloc (.cells #[.int .u8 15] 5)) (some ⟨w.heap.size + 1, 0, none⟩) [15] := lies_at (w.alloc (.cells #[.slice none 0 0, .slice none 0 0, .nilFunc] 63)) _ _ _ _ rfl (by simp)
  have hb2 : Below w.heap.size w ((w.alloc (.cells #[.slice none 0 0, .slice none 0 0, .nilFunc] 63)).alloc (.cells #[.int .u8 15] 5)) := ((Below.refl _ w).alloc (Nat.le_refl _) _).alloc (by simp) _
  have hz2 : ((w.alloc (.cells #[.slice none 0 0, .slice none 0 0, .nilFunc] 63)).alloc (.cells #[.int .u8 15] 5)).heap.size = w.heap.size + 1 + 1 := by simp
  have r2 := old_at r0 (.cells #[.int .u8 15] 5)
  have HC0 := Lib.hid (fun w => addr_make w)
  have HC1 := Lib.hid (fun w => liB_make 1968 (by omega) w)
  have hfr : ∀ b o s, (some ⟨w.heap.size + 1, 0, none⟩ : Option Addr) = some ⟨b, o, s⟩ → w.heap.size + 1 ≤ b := fun b o s e => by cases e; exact Nat.le_refl _
  go_enter Tryz.func31, Tryz.ntmps31
  go_wp2_with fail
  refine (HC0.out _).mono ?_
  rintro e v0 ⟨vs, rfl, hP, hb⟩
  obtain ⟨g01, g02, g03, g04, l01, l02, l03, l04, rfl, hp⟩ := hP
  have hp0 := PartAt.low (v := ⟨g01, g02, g03, g04, l01, l02, l03, l04⟩) hp (lo' := w.heap.size + 1) (by simp)
  have hbb0 := hb2.trans (hb.mono hb2.size)
  have rr0 := row_later r2 hb
  have sn0 : Since (w.heap.size + 1) _ v0 := Since.of_below hb
  clear hp hb
  go_wp2_with fail
  refine (HC1.out _).mono ?_
  rintro e v1 ⟨vs, rfl, hP, hb⟩
  obtain ⟨g11, g12, g13, g14, l11, l12, l13, l14, rfl, hp⟩ := hP
  have hp1 := PartAt.low (v := ⟨g11, g12, g13, g14, l11, l12, l13, l14⟩) hp (lo' := w.heap.size + 1) (row_lt rr0)
  have hbb1 := hbb0.trans (hb.mono hbb0.size)
  have rr1 := row_later rr0 hb
  have sn1 : Since (w.heap.size + 1) _ v1 := Since.of_below hb
  clear hp hb
  have r5 := old_at rr1 (.cells #[.func (.func g01) #[] l01, .func (.func g02) #[] l02, .func (.func g03) #[] l03, .func (.func g04) #[] l04, .func (.func g11) #[] l11, .func (.func g12) #[] l12, .func (.func g13) #[] l13, .func (.func g14) #[] l14] 80)
  have hb5 : Below w.heap.size w (v1.alloc (.cells #[.func (.func g01) #[] l01, .func (.func g02) #[] l02, .func (.func g03) #[] l03, .func (.func g04) #[] l04, .func (.func g11) #[] l11, .func (.func g12) #[] l12, .func (.func g13) #[] l13, .func (.func g14) #[] l14] 80)) := hbb1.alloc hbb1.size _
  obtain ⟨m1, m2, m3⟩ := made3 r5 hb5 (Nat.le_refl _) (.slice (some ⟨w.heap.size + 1, 0, none⟩) 1 1) (.slice (some ⟨v1.heap.size, 0, none⟩) 2 2) (.func (.func 51) #[] #[])
  obtain ⟨z0, z1, z2, y0, y1, y2⟩ := row_tri r5
  obtain ⟨x0, x1, x2, _⟩ := row_tri m1
  have HL : Hid (LayIn (w.heap.size + 1) (v1.alloc (.cells #[.func (.func g01) #[] l01, .func (.func g02) #[] l02, .func (.func g03) #[] l03, .func (.func g04) #[] l04, .func (.func g11) #[] l11, .func (.func g12) #[] l12, .func (.func g13) #[] l13, .func (.func g14) #[] l14] 80)) ⟨[15],  [.num .addr 2 0 65535, .bits 1968], .bits⟩ (.agg #[.slice (some ⟨w.heap.size + 1, 0, none⟩) 1 1, .slice (some ⟨v1.heap.size, 0, none⟩) 2 2, .func (.func 51) #[] #[]])) := Lib.hid (by
    refine ⟨_, _, _, _, _, _, [⟨g01, g02, g03, g04, l01, l02, l03, l04⟩, ⟨g11, g12, g13, g14, l11, l12, l13, l14⟩], rfl, rfl, rfl, by omega, by unfold maxLen; omega, ?_, ?_, ?_, row_at v1 _ _ _ rfl, bitsInside_ok, ?_⟩
    · exact ((hl.since sn0 hfr).since sn1 hfr).since (since_alloc _ _ _) hfr
    · exact hfr
    · have := hbb1.size
      have := row_lt rr1
      omega
    · exact ⟨((hp0.since sn1).since (since_alloc _ _ _)), (hp1.since (since_alloc _ _ _)), trivial⟩)
  have HF := Lib.hid (HL.out.since m2)
  have HB := Lib.hid m3
  clear HL m1 m2 m3 r5 hb5 rr0 hbb0 hp0 sn0 rr1 hbb1 hp1 sn1
  go_wp2_with fail
  refine bodyPost_ret_by (v := .tuple #[.agg #[.slice (some ⟨w.heap.size + 1, 0, none⟩) 1 1, .slice (some ⟨v1.heap.size, 0, none⟩) 2 2, .func (.func 51) #[] #[]], .bool true]) (by simp [results, Tryz.f31, go_sem, x0, x1, x2]) rfl ?_
  exact ⟨HB.out, _, rfl, HF.out.low (by omega)⟩

set_option maxRecDepth 100000 in
set_option maxHeartbeats 1000000 in
theorem lay16 (w : World) : Calls Tryz.prog 31 #[.int .i64 16] w (LayPost w 16) := by
  have r0 := row_at w #[.slice none 0 0, .slice none 0 0, .nilFunc] 63 w.heap.size rfl
  have hl : Lies u8v ((w.alloc (.cells #[.slice none 0 0, .slice none 0 0, .nilFunc] 63)).alloc (.cells #[.int .u8 16] 5)) (some ⟨w.heap.size + 1, 0, none⟩) [16] := lies_at (w.alloc (.cells #[.slice none 0 0, .slice none 0 0, .nilFunc] 63)) _ _ _ _ rfl (by simp)
  have hb2 : Below w.heap.size w ((w.alloc (.cells #[.slice none 0 0, .slice none 0 0, .nilFunc] 63)).alloc (.cells #[.int .u8 16] 5)) := ((Below.refl _ w).alloc (Nat.le_refl _) _).alloc (by simp) _
  have hz2 : ((w.alloc (.cells #[.slice none 0 0, .slice none 0 0, .nilFunc] 63)).alloc (.cells #[.int .u8 16] 5)).heap.size = w.heap.size + 1 + 1 := by simp
  have r2 := old_at r0 (.cells #[.int .u8 16] 5)
  have HC0 := Lib.hid (fun w => addr_make w)
  have HC1 := Lib.hid (fun w => words_make 123 (by omega) w)
  have hfr : ∀ b o s, (some ⟨w.heap.size + 1, 0, none⟩ : Option Addr) = some ⟨b, o, s⟩ → w.heap.size + 1 ≤ b := fun b o s e => by cases e; exact Nat.le_refl _
  go_enter Tryz.func31, Tryz.ntmps31
  go_wp2_with fail
  refine (HC0.out _).mono ?_
  rintro e v0 ⟨vs, rfl, hP, hb⟩
  obtain ⟨g01, g02, g03, g04, l01, l02, l03, l04, rfl, hp⟩ := hP
  have hp0 := PartAt.low (v := ⟨g01, g02, g03, g04, l01, l02, l03, l04⟩) hp (lo' := w.heap.size + 1) (by simp)
  have hbb0 := hb2.trans (hb.mono hb2.size)
  have rr0 := row_later r2 hb
  have sn0 : Since (w.heap.size + 1) _ v0 := Since.of_below hb
  clear hp hb
  go_wp2_with fail
  refine (HC1.out _).mono ?_
  rintro e v1 ⟨vs, rfl, hP, hb⟩
  obtain ⟨g11, g12, g13, g14, l11, l12, l13, l14, rfl, hp⟩ := hP
  have hp1 := PartAt.low (v := ⟨g11, g12, g13, g14, l11, l12, l13, l14⟩) hp (lo' := w.heap.size + 1) (row_lt rr0)
  have hbb1 := hbb0.trans (hb.mono hbb0.size)
  have rr1 := row_later rr0 hb
  have sn1 : Since (w.heap.size + 1) _ v1 := Since.of_below hb
  clear hp hb
  have r5 := old_at rr1 (.cells #[.func (.func g01) #[] l01, .func (.func g02) #[] l02, .func (.func g03) #[] l03, .func (.func g04) #[] l04, .func (.func g11) #[] l11, .func (.func g12) #[] l12, .func (.func g13) #[] l13, .func (.func g14) #[] l14] 80)
  have hb5 : Below w.heap.size w (v1.alloc (.cells #[.func (.func g01) #[] l01, .func (.func g02) #[] l02, .func (.func g03) #[] l03, .func (.func g04) #[] l04, .func (.func g11) #[] l11, .func (.func g12) #[] l12, .func (.func g13) #[] l13, .func (.func g14) #[] l14] 80)) := hbb1.alloc hbb1.size _
  obtain ⟨m1, m2, m3⟩ := made3 r5 hb5 (Nat.le_refl _) (.slice (some ⟨w.heap.size + 1, 0, none⟩) 1 1) (.slice (some ⟨v1.heap.size, 0, none⟩) 2 2) (.func (.func 56) #[] #[])
  obtain ⟨z0, z1, z2, y0, y1, y2⟩ := row_tri r5
  obtain ⟨x0, x1, x2, _⟩ := row_tri m1
  have HL : Hid (LayIn (w.heap.size + 1) (v1.alloc (.cells #[.func (.func g01) #[] l01, .func (.func g02) #[] l02, .func (.func g03) #[] l03, .func (.func g04) #[] l04, .func (.func g11) #[] l11, .func (.func g12) #[] l12, .func (.func g13) #[] l13, .func (.func g14) #[] l14] 80)) ⟨[16],  [.num .addr 2 0 65535, .words 123], .words⟩ (.agg #[.slice (some ⟨w.heap.size + 1, 0, none⟩) 1 1, .slice (some ⟨v1.heap.size, 0, none⟩) 2 2, .func (.func 56) #[] #[]])) := Lib.hid (by
    refine ⟨_, _, _, _, _, _, [⟨g01, g02, g03, g04, l01, l02, l03, l04⟩, ⟨g11, g12, g13, g14, l11, l12, l13, l14⟩], rfl, rfl, rfl, by omega, by unfold maxLen; omega, ?_, ?_, ?_, row_at v1 _ _ _ rfl, wordsInside_ok, ?_⟩
    · exact ((hl.since sn0 hfr).since sn1 hfr).since (since_alloc _ _ _) hfr
    · exact hfr
    · have := hbb1.size
      have := row_lt rr1
      omega
    · exact ⟨((hp0.since sn1).since (since_alloc _ _ _)), (hp1.since (since_alloc _ _ _)), trivial⟩)
  have HF := Lib.hid (HL.out.since m2)
  have HB := Lib.hid m3
  clear HL m1 m2 m3 r5 hb5 rr0 hbb0 hp0 sn0 rr1 hbb1 hp1 sn1
  go_wp2_with fail
  refine bodyPost_ret_by (v := .tuple #[.agg #[.slice (some ⟨w.heap.size + 1, 0, none⟩) 1 1, .slice (some ⟨v1.heap.size, 0, none⟩) 2 2, .func (.func 56) #[] #[]], .bool true]) (by simp [results, Tryz.f31, go_sem, x0, x1, x2]) rfl ?_
  exact ⟨HB.out, _, rfl, HF.out.low (by omega)⟩

set_option maxRecDepth 100000 in
set_option maxHeartbeats 1000000 in
theorem lay22 (w : World) : Calls Tryz.prog 31 #[.int .i64 22] w (LayPost w 22) := by
  have r0 := row_at w #[.slice none 0 0, .slice none 0 0, .nilFunc] 63 w.heap.size rfl
  have hl : Lies u8v ((w.alloc (.cells #[.slice none 0 0, .slice none 0 0, .nilFunc] 63)).alloc (.cells #[.int .u8 22] 5)) (some ⟨w.heap.size + 1, 0, none⟩) [22] := lies_at (w.alloc (.cells #[.slice none 0 0, .slice none 0 0, .nilFunc] 63)) _ _ _ _ rfl (by simp)
  have hb2 : Below w.heap.size w ((w.alloc (.cells #[.slice none 0 0, .slice none 0 0, .nilFunc] 63)).alloc (.cells #[.int .u8 22] 5)) := ((Below.refl _ w).alloc (Nat.le_refl _) _).alloc (by simp) _
  have hz2 : ((w.alloc (.cells #[.slice none 0 0, .slice none 0 0, .nilFunc] 63)).alloc (.cells #[.int .u8 22] 5)).heap.size = w.heap.size + 1 + 1 := by simp
  have r2 := old_at r0 (.cells #[.int .u8 22] 5)
  have HC0 := Lib.hid (fun w => addr_make w)
  have HC1 := Lib.hid (fun w => mask_make .and_ 62 andOf_ok w)
  have HC2 := Lib.hid (fun w => mask_make .or_ 63 orOf_ok w)
  have hfr : ∀ b o s, (some ⟨w.heap.size + 1, 0, none⟩ : Option Addr) = some ⟨b, o, s⟩ → w.heap.size + 1 ≤ b := fun b o s e => by cases e; exact Nat.le_refl _
  go_enter Tryz.func31, Tryz.ntmps31
  go_wp2_with fail
  refine (HC0.out _).mono ?_
  rintro e v0 ⟨vs, rfl, hP, hb⟩
  obtain ⟨g01, g02, g03, g04, l01, l02, l03, l04, rfl, hp⟩ := hP
  have hp0 := PartAt.low (v := ⟨g01, g02, g03, g04, l01, l02, l03, l04⟩) hp (lo' := w.heap.size + 1) (by simp)
  have hbb0 := hb2.trans (hb.mono hb2.size)
  have rr0 := row_later r2 hb
  have sn0 : Since (w.heap.size + 1) _ v0 := Since.of_below hb
  clear hp hb
  go_wp2_with fail
  refine (HC1.out _).mono ?_
  rintro e v1 ⟨vs, rfl, hP, hb⟩
  obtain ⟨g11, g12, g13, g14, l11, l12, l13, l14, rfl, hp⟩ := hP
  have hp1 := PartAt.low (v := ⟨g11, g12, g13, g14, l11, l12, l13, l14⟩) hp (lo' := w.heap.size + 1) (row_lt rr0)
  have hbb1 := hbb0.trans (hb.mono hbb0.size)
  have rr1 := row_later rr0 hb
  have sn1 : Since (w.heap.size + 1) _ v1 := Since.of_below hb
  clear hp hb
  go_wp2_with fail
  refine (HC2.out _).mono ?_
  rintro e v2 ⟨vs, rfl, hP, hb⟩
  obtain ⟨g21, g22, g23, g24, l21, l22, l23, l24, rfl, hp⟩ := hP
  have hp2 := PartAt.low (v := ⟨g21, g22, g23, g24, l21, l22, l23, l24⟩) hp (lo' := w.heap.size + 1) (row_lt rr1)
  have hbb2 := hbb1.trans (hb.mono hbb1.size)
  have rr2 := row_later rr1 hb
  have sn2 : Since (w.heap.size + 1) _ v2 := Since.of_below hb
  clear hp hb
  have r5 := old_at rr2 (.cells #[.func (.func g01) #[] l01, .func (.func g02) #[] l02, .func (.func g03) #[] l03, .func (.func g04) #[] l04, .func (.func g11) #[] l11, .func (.func g12) #[] l12, .func (.func g13) #[] l13, .func (.func g14) #[] l14, .func (.func g21) #[] l21, .func (.func g22) #[] l22, .func (.func g23) #[] l23, .func (.func g24) #[] l24] 80)
  have hb5 : Below w.heap.size w (v2.alloc (.cells #[.func (.func g01) #[] l01, .func (.func g02) #[] l02, .func (.func g03) #[] l03, .func (.func g04) #[] l04, .func (.func g11) #[] l11, .func (.func g12) #[] l12, .func (.func g13) #[] l13, .func (.func g14) #[] l14, .func (.func g21) #[] l21, .func (.func g22) #[] l22, .func (.func g23) #[] l23, .func (.func g24) #[] l24] 80)) := hbb2.alloc hbb2.size _
  obtain ⟨m1, m2, m3⟩ := made3 r5 hb5 (Nat.le_refl _) (.slice (some ⟨w.heap.size + 1, 0, none⟩) 1 1) (.slice (some ⟨v2.heap.size, 0, none⟩) 3 3) (.func (.func 64) #[] #[])
  obtain ⟨z0, z1, z2, y0, y1, y2⟩ := row_tri r5
  obtain ⟨x0, x1, x2, _⟩ := row_tri m1
  have HL : Hid (LayIn (w.heap.size + 1) (v2.alloc (.cells #[.func (.func g01) #[] l01, .func (.func g02) #[] l02, .func (.func g03) #[] l03, .func (.func g04) #[] l04, .func (.func g11) #[] l11, .func (.func g12) #[] l12, .func (.func g13) #[] l13, .func (.func g14) #[] l14, .func (.func g21) #[] l21, .func (.func g22) #[] l22, .func (.func g23) #[] l23, .func (.func g24) #[] l24] 80)) ⟨[22],  [.num .addr 2 0 65535, .mask .and_, .mask .or_], .one⟩ (.agg #[.slice (some ⟨w.heap.size + 1, 0, none⟩) 1 1, .slice (some ⟨v2.heap.size, 0, none⟩) 3 3, .func (.func 64) #[] #[]])) := Lib.hid (by
    refine ⟨_, _, _, _, _, _, [⟨g01, g02, g03, g04, l01, l02, l03, l04⟩, ⟨g11, g12, g13, g14, l11, l12, l13, l14⟩, ⟨g21, g22, g23, g24, l21, l22, l23, l24⟩], rfl, rfl, rfl, by omega, by unfold maxLen; omega, ?_, ?_, ?_, row_at v2 _ _ _ rfl, oneInside_ok, ?_⟩
    · exact (((hl.since sn0 hfr).since sn1 hfr).since sn2 hfr).since (since_alloc _ _ _) hfr
    · exact hfr
    · have := hbb2.size
      have := row_lt rr2
      omega
    · exact ⟨(((hp0.since sn1).since sn2).since (since_alloc _ _ _)), ((hp1.since sn2).since (since_alloc _ _ _)), (hp2.since (since_alloc _ _ _)), trivial⟩)
  have HF := Lib.hid (HL.out.since m2)
  have HB := Lib.hid m3
  clear HL m1 m2 m3 r5 hb5 rr0 hbb0 hp0 sn0 rr1 hbb1 hp1 sn1 rr2 hbb2 hp2 sn2
  go_wp2_with fail
  refine bodyPost_ret_by (v := .tuple #[.agg #[.slice (some ⟨w.heap.size + 1, 0, none⟩) 1 1, .slice (some ⟨v2.heap.size, 0, none⟩) 3 3, .func (.func 64) #[] #[]], .bool true]) (by simp [results, Tryz.f31, go_sem, x0, x1, x2]) rfl ?_
  exact ⟨HB.out, _, rfl, HF.out.low (by omega)⟩

set_option maxRecDepth 100000 in
set_option maxHeartbeats 1000000 in
theorem lay23 (w : World) : Calls Tryz.prog 31 #[.int .i64 23] w (LayPost w 23) := by
  have r0 := row_at w #[.slice none 0 0, .slice none 0 0, .nilFunc] 63 w.heap.size rfl
  have hl : Lies u8v ((w.alloc (.cells #[.slice none 0 0, .slice none 0 0, .nilFunc] 63)).alloc (.cells #[.int .u8 23] 5)) (some ⟨w.heap.size + 1, 0, none⟩) [23] := lies_at (w.alloc (.cells #[.slice none 0 0, .slice none 0 0, .nilFunc] 63)) _ _ _ _ rfl (by simp)
  have hb2 : Below w.heap.size w ((w.alloc (.cells #[.slice none 0 0, .slice none 0 0, .nilFunc] 63)).alloc (.cells #[.int .u8 23] 5)) := ((Below.refl _ w).alloc (Nat.le_refl _) _).alloc (by simp) _
  have hz2 : ((w.alloc (.cells #[.slice none 0 0, .slice none 0 0, .nilFunc] 63)).alloc (.cells #[.int .u8 23] 5)).heap.size = w.heap.size + 1 + 1 := by simp
  have r2 := old_at r0 (.cells #[.int .u8 23] 5)
  have HC0 := Lib.hid (fun w => addr_make w)
  have HC1 := Lib.hid (fun w => count_make 125 (by omega) w)
  have HC2 := Lib.hid (fun w => to_make w)
  have HC3 := Lib.hid (fun w => words_make 121 (by omega) w)
  have hfr : ∀ b o s, (some ⟨w.heap.size + 1, 0, none⟩ : Option Addr) = some ⟨b, o, s⟩ → w.heap.size + 1 ≤ b := fun b o s e => by cases e; exact Nat.le_refl _
  go_enter Tryz.func31, Tryz.ntmps31
  go_wp2_with fail
  refine (HC0.out _).mono ?_
  rintro e v0 ⟨vs, rfl, hP, hb⟩
  obtain ⟨g01, g02, g03, g04, l01, l02, l03, l04, rfl, hp⟩ := hP
  have hp0 := PartAt.low (v := ⟨g01, g02, g03, g04, l01, l02, l03, l04⟩) hp (lo' := w.heap.size + 1) (by simp)
  have hbb0 := hb2.trans (hb.mono hb2.size)
  have rr0 := row_later r2 hb
  have sn0 : Since (w.heap.size + 1) _ v0 := Since.of_below hb
  clear hp hb
  go_wp2_with fail
  refine (HC1.out _).mono ?_
  rintro e v1 ⟨vs, rfl, hP, hb⟩
  obtain ⟨g11, g12, g13, g14, l11, l12, l13, l14, rfl, hp⟩ := hP
  have hp1 := PartAt.low (v := ⟨g11, g12, g13, g14, l11, l12, l13, l14⟩) hp (lo' := w.heap.size + 1) (row_lt rr0)
  have hbb1 := hbb0.trans (hb.mono hbb0.size)
  have rr1 := row_later rr0 hb
  have sn1 : Since (w.heap.size + 1) _ v1 := Since.of_below hb
  clear hp hb
  go_wp2_with fail
  refine (HC2.out _).mono ?_
  rintro e v2 ⟨vs, rfl, hP, hb⟩
  obtain ⟨g21, g22, g23, g24, l21, l22, l23, l24, rfl, hp⟩ := hP
  have hp2 := PartAt.low (v := ⟨g21, g22, g23, g24, l21, l22, l23, l24⟩) hp (lo' := w.heap.size + 1) (row_lt rr1)
  have hbb2 := hbb1.trans (hb.mono hbb1.size)
  have rr2 := row_later rr1 hb
  have sn2 : Since (w.heap.size + 1) _ v2 := Since.of_below hb
  clear hp hb
  go_wp2_with fail
  refine (HC3.out _).mono ?_
  rintro e v3 ⟨vs, rfl, hP, hb⟩
  obtain ⟨g31, g32, g33, g34, l31, l32, l33, l34, rfl, hp⟩ := hP
  have hp3 := PartAt.low (v := ⟨g31, g32, g33, g34, l31, l32, l33, l34⟩) hp (lo' := w.heap.size + 1) (row_lt rr2)
  have hbb3 := hbb2.trans (hb.mono hbb2.size)
  have rr3 := row_later rr2 hb
  have sn3 : Since (w.heap.size + 1) _ v3 := Since.of_below hb
  clear hp hb
  have r5 := old_at rr3 (.cells #[.func (.func g01) #[] l01, .func (.func g02) #[] l02, .func (.func g03) #[] l03, .func (.func g04) #[] l04, .func (.func g11) #[] l11, .func (.func g12) #[] l12, .func (.func g13) #[] l13, .func (.func g14) #[] l14, .func (.func g21) #[] l21, .func (.func g22) #[] l22, .func (.func g23) #[] l23, .func (.func g24) #[] l24, .func (.func g31) #[] l31, .func (.func g32) #[] l32, .func (.func g33) #[] l33, .func (.func g34) #[] l34] 80)
  have hb5 : Below w.heap.size w (v3.alloc (.cells #[.func (.func g01) #[] l01, .func (.func g02) #[] l02, .func (.func g03) #[] l03, .func (.func g04) #[] l04, .func (.func g11) #[] l11, .func (.func g12) #[] l12, .func (.func g13) #[] l13, .func (.func g14) #[] l14, .func (.func g21) #[] l21, .func (.func g22) #[] l22, .func (.func g23) #[] l23, .func (.func g24) #[] l24, .func (.func g31) #[] l31, .func (.func g32) #[] l32, .func (.func g33) #[] l33, .func (.func g34) #[] l34] 80)) := hbb3.alloc hbb3.size _
  obtain ⟨m1, m2, m3⟩ := made3 r5 hb5 (Nat.le_refl _) (.slice (some ⟨w.heap.size + 1, 0, none⟩) 1 1) (.slice (some ⟨v3.heap.size, 0, none⟩) 4 4) (.func (.func 66) #[] #[])
  obtain ⟨z0, z1, z2, y0, y1, y2⟩ := row_tri r5
  obtain ⟨x0, x1, x2, _⟩ := row_tri m1
  have HL : Hid (LayIn (w.heap.size + 1) (v3.alloc (.cells #[.func (.func g01) #[] l01, .func (.func g02) #[] l02, .func (.func g03) #[] l03, .func (.func g04) #[] l04, .func (.func g11) #[] l11, .func (.func g12) #[] l12, .func (.func g13) #[] l13, .func (.func g14) #[] l14, .func (.func g21) #[] l21, .func (.func g22) #[] l22, .func (.func g23) #[] l23, .func (.func g24) #[] l24, .func (.func g31) #[] l31, .func (.func g32) #[] l32, .func (.func g33) #[] l33, .func (.func g34) #[] l34] 80)) ⟨[23],  [.num .addr 2 0 65535, .num .count 2 1 125, .num .to 2 0 65535, .words 121], .both⟩ (.agg #[.slice (some ⟨w.heap.size + 1, 0, none⟩) 1 1, .slice (some ⟨v3.heap.size, 0, none⟩) 4 4, .func (.func 66) #[] #[]])) := Lib.hid (by
    refine ⟨_, _, _, _, _, _, [⟨g01, g02, g03, g04, l01, l02, l03, l04⟩, ⟨g11, g12, g13, g14, l11, l12, l13, l14⟩, ⟨g21, g22, g23, g24, l21, l22, l23, l24⟩, ⟨g31, g32, g33, g34, l31, l32, l33, l34⟩], rfl, rfl, rfl, by omega, by unfold maxLen; omega, ?_, ?_, ?_, row_at v3 _ _ _ rfl, bothInside_ok, ?_⟩
    · exact ((((hl.since sn0 hfr).since sn1 hfr).since sn2 hfr).since sn3 hfr).since (since_alloc _ _ _) hfr
    · exact hfr
    · have := hbb3.size
      have := row_lt rr3
      omega
    · exact ⟨((((hp0.since sn1).since sn2).since sn3).since (since_alloc _ _ _)), (((hp1.since sn2).since sn3).since (since_alloc _ _ _)), ((hp2.since sn3).since (since_alloc _ _ _)), (hp3.since (since_alloc _ _ _)), trivial⟩)
  have HF := Lib.hid (HL.out.since m2)
  have HB := Lib.hid m3
  clear HL m1 m2 m3 r5 hb5 rr0 hbb0 hp0 sn0 rr1 hbb1 hp1 sn1 rr2 hbb2 hp2 sn2 rr3 hbb3 hp3 sn3
  go_wp2_with fail
  refine bodyPost_ret_by (v := .tuple #[.agg #[.slice (some ⟨w.heap.size + 1, 0, none⟩) 1 1, .slice (some ⟨v3.heap.size, 0, none⟩) 4 4, .func (.func 66) #[] #[]], .bool true]) (by simp [results, Tryz.f31, go_sem, x0, x1, x2]) rfl ?_
  exact ⟨HB.out, _, rfl, HF.out.low (by omega)⟩

set_option maxRecDepth 100000 in
set_option maxHeartbeats 1000000 in
theorem lay43 (w : World) : Calls Tryz.prog 31 #[.int .i64 43] w (LayPost w 43) := by
  have r0 := row_at w #[.slice none 0 0, .slice none 0 0, .nilFunc] 63 w.heap.size rfl
  have hown : ((w.alloc (.cells #[.slice none 0 0, .slice none 0 0, .nilFunc] 63)).alloc (.cells #[.int .u8 43] 5)).ownsRow (w.heap.size + 1) 5 1 (.slice (some ⟨w.heap.size + 1, 0, none⟩) 1 1) 1 (([43] : List UInt8).map u8v) := own_lit u8v (w.alloc (.cells #[.slice none 0 0, .slice none 0 0, .nilFunc] 63)) _ _ _ _ 1 [43] rfl rfl (by simp) (by simp) (by unfold maxLen; omega)
  have hown3 := hown.alloc (.cells #[.int .u8 14] 5)
  have hb3 : Below w.heap.size w (((w.alloc (.cells #[.slice none 0 0, .slice none 0 0, .nilFunc] 63)).alloc (.cells #[.int .u8 43] 5)).alloc (.cells #[.int .u8 14] 5)) := (((Below.refl _ w).alloc (Nat.le_refl _) _).alloc (by simp) _).alloc (by simp; omega) _
  have hl14 : Lies u8v (((w.alloc (.cells #[.slice none 0 0, .slice none 0 0, .nilFunc] 63)).alloc (.cells #[.int .u8 43] 5)).alloc (.cells #[.int .u8 14] 5)) (some ⟨w.heap.size + 1 + 1, 0, none⟩) [14] := lies_at ((w.alloc (.cells #[.slice none 0 0, .slice none 0 0, .nilFunc] 63)).alloc (.cells #[.int .u8 43] 5)) _ _ _ _ rfl (by simp)
  have hz3 : (((w.alloc (.cells #[.slice none 0 0, .slice none 0 0, .nilFunc] 63)).alloc (.cells #[.int .u8 43] 5)).alloc (.cells #[.int .u8 14] 5)).heap.size = w.heap.size + 1 + 1 + 1 := by simp
  have r3 := old_at (old_at r0 (.cells #[.int .u8 43] 5)) (.cells #[.int .u8 14] 5)
  have HC0 := Lib.hid (fun w => level_make w)
  have HC1 := Lib.hid (fun w => object_make w)
  go_enter Tryz.func31, Tryz.ntmps31
  go_wp2_with (at_builtin; go_must (refine wpList_append_lies kit8 one8 _ rfl (.tmp 74) (.tmp 75) rfl (w.heap.size + 1) _ 1 [43] rfl hown3 (some ⟨w.heap.size + 1 + 1, 0, none⟩) 1 1 [14] rfl rfl hl14 (by omega) (by unfold maxLen; omega) (by simp) ?_; intro A2 c2 w2 hown2 hg2 hb2))
  have hb2 : Below w.heap.size w w2 := hb3.trans (hb2.mono (by omega))
  have hz2 : w.heap.size + 1 + 1 ≤ w2.heap.size := by have := hg2.size; omega
  obtain ⟨q1, q2, q3, hl⟩ := own_at hown2
  have hfr : ∀ b o s, A2 = some ⟨b, o, s⟩ → w.heap.size + 1 ≤ b := fun b o s e => by subst e; exact (hown2.lt b rfl).1
  have r2 : w2.heap[w.heap.size]? = some (.cells #[.slice none 0 0, .slice none 0 0, .nilFunc] 63 (0, 0)) := (hg2.block _ (row_lt r3) (fun e => by have := (hown3.lt _ e.symm).1; omega)).trans r3
  have HR2 := Lib.hid r2
  clear r2 r3 r0
  refine (HC0.out _).mono ?_
  rintro e v0 ⟨vs, rfl, hP, hb⟩
  obtain ⟨g01, g02, g03, g04, l01, l02, l03, l04, rfl, hp⟩ := hP
  have hp0 := PartAt.low (v := ⟨g01, g02, g03, g04, l01, l02, l03, l04⟩) hp (lo' := w.heap.size + 1) (by omega)
  have hbb0 := hb2.trans (hb.mono hb2.size)
  have rr0 := row_later HR2.out hb
  have sn0 : Since (w.heap.size + 1) _ v0 := Since.of_below hb
  clear hp hb
  go_wp2_with fail
  refine (HC1.out _).mono ?_
  rintro e v1 ⟨vs, rfl, hP, hb⟩
  obtain ⟨g11, g12, g13, g14, l11, l12, l13, l14, rfl, hp⟩ := hP
  have hp1 := PartAt.low (v := ⟨g11, g12, g13, g14, l11, l12, l13, l14⟩) hp (lo' := w.heap.size + 1) (row_lt rr0)
  have hbb1 := hbb0.trans (hb.mono hbb0.size)
  have rr1 := row_later rr0 hb
  have sn1 : Since (w.heap.size + 1) _ v1 := Since.of_below hb
  clear hp hb
  have r5 := old_at rr1 (.cells #[.func (.func g01) #[] l01, .func (.func g02) #[] l02, .func (.func g03) #[] l03, .func (.func g04) #[] l04, .func (.func g11) #[] l11, .func (.func g12) #[] l12, .func (.func g13) #[] l13, .func (.func g14) #[] l14] 80)
  have hb5 : Below w.heap.size w (v1.alloc (.cells #[.func (.func g01) #[] l01, .func (.func g02) #[] l02, .func (.func g03) #[] l03, .func (.func g04) #[] l04, .func (.func g11) #[] l11, .func (.func g12) #[] l12, .func (.func g13) #[] l13, .func (.func g14) #[] l14] 80)) := hbb1.alloc hbb1.size _
  obtain ⟨m1, m2, m3⟩ := made3 r5 hb5 (Nat.le_refl _) (.slice (A2) 2 c2) (.slice (some ⟨v1.heap.size, 0, none⟩) 2 2) (.func (.func 69) #[] #[])
  obtain ⟨z0, z1, z2, y0, y1, y2⟩ := row_tri r5
  obtain ⟨x0, x1, x2, _⟩ := row_tri m1
  have HL : Hid (LayIn (w.heap.size + 1) (v1.alloc (.cells #[.func (.func g01) #[] l01, .func (.func g02) #[] l02, .func (.func g03) #[] l03, .func (.func g04) #[] l04, .func (.func g11) #[] l11, .func (.func g12) #[] l12, .func (.func g13) #[] l13, .func (.func g14) #[] l14] 80)) ⟨[43, 14],  [.num .count 1 1 4, .num .addr 1 0 255], .always⟩ (.agg #[.slice (A2) 2 c2, .slice (some ⟨v1.heap.size, 0, none⟩) 2 2, .func (.func 69) #[] #[]])) := Lib.hid (by
    refine ⟨_, _, _, _, _, _, [⟨g01, g02, g03, g04, l01, l02, l03, l04⟩, ⟨g11, g12, g13, g14, l11, l12, l13, l14⟩], rfl, rfl, rfl, q1, q2, ?_, ?_, ?_, row_at v1 _ _ _ rfl, always_ok, ?_⟩
    · exact ((hl.since sn0 hfr).since sn1 hfr).since (since_alloc _ _ _) hfr
    · exact hfr
    · have := hbb1.size
      have := row_lt rr1
      omega
    · exact ⟨((hp0.since sn1).since (since_alloc _ _ _)), (hp1.since (since_alloc _ _ _)), trivial⟩)
  have HF := Lib.hid (HL.out.since m2)
  have HB := Lib.hid m3
  clear HL m1 m2 m3 r5 hb5 rr0 hbb0 hp0 sn0 rr1 hbb1 hp1 sn1
  go_wp2_with fail
  refine bodyPost_ret_by (v := .tuple #[.agg #[.slice (A2) 2 c2, .slice (some ⟨v1.heap.size, 0, none⟩) 2 2, .func (.func 69) #[] #[]], .bool true]) (by simp [results, Tryz.f31, go_sem, x0, x1, x2]) rfl ?_
  exact ⟨HB.out, _, rfl, HF.out.low (by omega)⟩
end Go.Proofs.YtcbkbdoaaaofjaaGreat

/-
  The landed ask: layoutOf, of any code; what the layouts' loops make of a request (the mathematics).
-/
namespace Go.Proofs.YtcbkbdoaaaofjaaGreat
open Go.RowKit Go.Shelf

set_option maxRecDepth 100000 in
set_option maxHeartbeats 1000000 in
theorem lay_none (c : Int) (hc : c ∉ Ak.codes) (w : World) : Calls Tryz.prog 31 #[.int .i64 c] w (LayPost w c) := by
  simp only [Ak.codes, List.mem_cons, List.not_mem_nil, or_false, not_or] at hc
  obtain ⟨n1, n2, n3, n4, n5, n6, n15, n16, n22, n23, n43⟩ := hc
  have HL : Hid (layOf c = none) := Lib.hid (by unfold layOf; simp only [n1, n2, n3, n4, n5, n6, n15, n16, n22, n23, n43, or_self, if_false])
  have e1 : (c == 1) = false := beq_eq_false_iff_ne.2 n1
  have e2 : (c == 2) = false := beq_eq_false_iff_ne.2 n2
  have e3 : (c == 3) = false := beq_eq_false_iff_ne.2 n3
  have e4 : (c == 4) = false := beq_eq_false_iff_ne.2 n4
  have e5 : (c == 5) = false := beq_eq_false_iff_ne.2 n5
  have e6 : (c == 6) = false := beq_eq_false_iff_ne.2 n6
  have e15 : (c == 15) = false := beq_eq_false_iff_ne.2 n15
  have e16 : (c == 16) = false := beq_eq_false_iff_ne.2 n16
  have e22 : (c == 22) = false := beq_eq_false_iff_ne.2 n22
  have e23 : (c == 23) = false := beq_eq_false_iff_ne.2 n23
  have e43 : (c == 43) = false := beq_eq_false_iff_ne.2 n43
  clear n1 n2 n3 n4 n5 n6 n15 n16 n22 n23 n43
  go_enter Tryz.func31, Tryz.ntmps31
  go_wp2_with fail
  refine bodyPost_ret_by (v := .tuple #[.agg #[.slice none 0 0, .slice none 0 0, .nilFunc], .bool false]) (by simp [results, Tryz.f31, go_sem]) rfl ?_
  refine ⟨?_, ?_⟩
  · exact ((Below.refl _ _).alloc (Nat.le_refl _) _).alloc (by simp) _
  · rw [HL.out]

theorem layoutOf_any (c : Int) (w : World) : Calls Tryz.prog 31 #[.int .i64 c] w (LayPost w c) := by
  by_cases hc : c ∈ Ak.codes
  · simp only [Ak.codes, List.mem_cons, List.not_mem_nil, or_false] at hc
    rcases hc with rfl | rfl | rfl | rfl | rfl | rfl | rfl | rfl | rfl | rfl | rfl
    · exact lay1 w
    · exact lay2 w
    · exact lay3 w
    · exact lay4 w
    · exact lay5 w
    · exact lay6 w
    · exact lay15 w
    · exact lay16 w
    · exact lay22 w
    · exact lay23 w
    · exact lay43 w
  · exact lay_none c hc w

namespace LK
def dropped (ps : List PK) (a : Ask) : Ask := ps.foldl (fun a p => p.drop a) a
def fits (L : LK) (a : Ask) : Bool := L.parts.all (fun p => p.fits a) && Ak.same (dropped L.parts a) { Ak.zero with code := a.code }
def outs (ps : List PK) (a : Ask) : List UInt8 := ps.flatMap fun p => p.out a
def reads : List PK → List UInt8 → Ask → Option (List UInt8 × Ask)
  | [], b, a => some (b, a)
  | p :: ps, b, a => match p.read b a with | none => none | some (r, a') => reads ps r a'
def readAll (L : LK) (b : List UInt8) : Option Ask :=
  if L.begin_.isPrefixOf b then (match reads L.parts (b.drop L.begin_.length) { Ak.zero with code := ((L.begin_.getD 0 0).toNat : Nat) } with | some ([], a) => some a | _ => none) else none
theorem dropped_take (ps : List PK) (a : Ask) (j : Nat) (h : j < ps.length) : dropped (ps.take (j + 1)) a = ps[j].drop (dropped (ps.take j) a) := by
  unfold dropped
  rw [List.take_succ_eq_append_getElem h, List.foldl_append]
  rfl
theorem outs_take (ps : List PK) (a : Ask) (j : Nat) (h : j < ps.length) : outs (ps.take (j + 1)) a = outs (ps.take j) a ++ ps[j].out a := by
  unfold outs
  rw [List.take_succ_eq_append_getElem h, List.flatMap_append]
  simp
theorem all_take (ps : List PK) (a : Ask) (j : Nat) (h : j < ps.length) : (ps.take (j + 1)).all (fun p => p.fits a) = ((ps.take j).all (fun p => p.fits a) && ps[j].fits a) := by
  rw [List.take_succ_eq_append_getElem h, List.all_append]
  simp
theorem all_not (ps : List PK) (a : Ask) (j : Nat) (h : j < ps.length) (hf : ps[j].fits a = false) : ps.all (fun p => p.fits a) = false := by
  rw [List.all_eq_false]
  exact ⟨_, List.getElem_mem h, by rw [hf]; simp⟩
theorem reads_cons (p : PK) (ps : List PK) (b : List UInt8) (a : Ask) : reads (p :: ps) b a = match p.read b a with | none => none | some (r, a') => reads ps r a' := rfl
theorem reads_append (ps qs : List PK) (b : List UInt8) (a : Ask) : reads (ps ++ qs) b a = match reads ps b a with | none => none | some (r, a') => reads qs r a' := by
  induction ps generalizing b a with
  | nil => rfl
  | cons p ps ih =>
    rw [List.cons_append, reads_cons, reads_cons]
    cases p.read b a with
    | none => rfl
    | some x => exact ih _ _
theorem reads_take (ps : List PK) (b : List UInt8) (a : Ask) (j : Nat) (h : j < ps.length) : reads (ps.take (j + 1)) b a = match reads (ps.take j) b a with | none => none | some (r, a') => ps[j].read r a' := by
  rw [List.take_succ_eq_append_getElem h, reads_append]
  cases reads (ps.take j) b a with
  | none => rfl
  | some x =>
    obtain ⟨r, a'⟩ := x
    show reads [ps[j]] r a' = ps[j].read r a'
    rw [reads_cons]
    cases ps[j].read r a' with
    | none => rfl
    | some y => rfl
theorem reads_none (ps : List PK) (b : List UInt8) (a : Ask) (j : Nat) (h : reads (ps.take j) b a = none) : reads ps b a = none := by
  rw [← List.take_append_drop j ps, reads_append, h]
end LK
end Go.Proofs.YtcbkbdoaaaofjaaGreat
