/-
  The document's own Read of layer 4, walked.
-/
import Derived.Test.YtophchhienlafaaNum
import Derived.Deep.RegionLaw
import Derived.Deep.RegionHeld3
import Derived.Laws.BitsAllLaws
namespace Go.Proofs.Ytophchhienlafaa
open Go.RowKit

theorem lies_get {w : World} {b off : Nat} {l : List UInt8} (h : Lies u8v w (some ⟨b, off, none⟩) l) (j : Nat) (hj : j < l.length) : w.cell? ⟨b, off + j, none⟩ = some (.int .u8 ((l.getD j 0).toNat : Int)) := by
  have := h.row j hj
  rw [this, List.getD_eq_getElem?_getD, List.getElem?_eq_getElem hj]
  rfl
theorem byte_ne {x : UInt8} (h : x ≠ 0) : ((x.toNat : Int) != 0) = true := by
  rw [bne_iff_ne]
  intro e
  exact h (UInt8.toNat_inj.1 (by simpa using e))
theorem byte_eq {x : UInt8} (h : x = 0) : ((x.toNat : Int) != 0) = false := by
  subst h
  rfl
theorem own_block {w : World} {B e n c : Nat} {A : Option Addr} {xs : List Value} (h : w.ownsRow B e 1 (.slice A n c) n xs) {b o : Nat} {s : Option Nat} (hA : A = some ⟨b, o, s⟩) (_ : 0 < n) : B ≤ b := by
  subst hA
  rcases h.2 with ⟨h', _⟩ | ⟨g, cap, cur, hv, hb, _⟩
  · cases h'
  · cases hv
    exact hb

set_option maxRecDepth 100000 in
set_option maxHeartbeats 400000 in
theorem rread4_none (A : Option Addr) (n c : Nat) (b : List UInt8) (hn : b.length = n) (_ : n ≤ c) (hm : n ≤ 60000) (w : World) (_ : Lies u8v w A b) (h0 : n < 4) :
    Calls Try.prog 18 #[.slice A n c] w (ReadPost w b) := by
    have HC := Lib.hid (Mb.codeB_few b (.inl (by omega)) (by omega))
    clear hn
    go_enter Try.func18, Try.ntmps18
    go_wp2
    refine bodyPost_ret_by (v := .tuple #[.agg #[.int .u16 0, .int .u8 0, .slice none 0 0], .int .i64 0, .int .i64 3]) (by simp [results, Try.f18, go_sem]) rfl ?_
    exact ReadPost.bad _ _ _ 3 HC.out (by omega) ((Below.refl _ _).alloc (Nat.le_refl _) _)

set_option maxRecDepth 100000 in
set_option maxHeartbeats 400000 in
theorem rread4_two (A : Option Addr) (n c : Nat) (b : List UInt8) (hn : b.length = n) (_ : n ≤ c) (hm : n ≤ 60000) (w : World) (hb : Lies u8v w A b) (h0 : 4 ≤ n) (h2 : b.getD 2 0 ≠ 0) :
    Calls Try.prog 18 #[.slice A n c] w (ReadPost w b) := by
    have HC := Lib.hid (Mb.codeB_kind b (by omega) (.inl h2))
    obtain ⟨b1, o1, rfl, hlt1, _⟩ := hb.at_ (by omega)
    have hc2 := lies_get hb 2 (by omega)
    have hc3 := lies_get hb 3 (by omega)
    have e2 := byte_ne h2
    generalize b.getD 2 0 = x2 at *
    clear hn hb h2
    go_enter Try.func18, Try.ntmps18
    go_wp2
    refine bodyPost_ret_by (v := .tuple #[.agg #[.int .u16 0, .int .u8 0, .slice none 0 0], .int .i64 0, .int .i64 2]) (by simp [results, Try.f18, go_sem]) rfl ?_
    exact ReadPost.bad _ _ _ 2 HC.out (by omega) ((Below.refl _ _).alloc (Nat.le_refl _) _)

set_option maxRecDepth 100000 in
set_option maxHeartbeats 400000 in
theorem rread4_three (A : Option Addr) (n c : Nat) (b : List UInt8) (hn : b.length = n) (_ : n ≤ c) (hm : n ≤ 60000) (w : World) (hb : Lies u8v w A b) (h0 : 4 ≤ n) (h2 : b.getD 2 0 = 0) (h3 : b.getD 3 0 ≠ 0) :
    Calls Try.prog 18 #[.slice A n c] w (ReadPost w b) := by
    have HC := Lib.hid (Mb.codeB_kind b (by omega) (.inr h3))
    obtain ⟨b1, o1, rfl, hlt1, _⟩ := hb.at_ (by omega)
    have hc2 := lies_get hb 2 (by omega)
    have hc3 := lies_get hb 3 (by omega)
    have e2 := byte_eq h2
    have e3 := byte_ne h3
    generalize b.getD 2 0 = x2 at *
    generalize b.getD 3 0 = x3 at *
    clear hn hb h2 h3
    go_enter Try.func18, Try.ntmps18
    go_wp2
    refine bodyPost_ret_by (v := .tuple #[.agg #[.int .u16 0, .int .u8 0, .slice none 0 0], .int .i64 0, .int .i64 2]) (by simp [results, Try.f18, go_sem]) rfl ?_
    exact ReadPost.bad _ _ _ 2 HC.out (by omega) ((Below.refl _ _).alloc (Nat.le_refl _) _)

set_option maxRecDepth 100000 in
set_option maxHeartbeats 400000 in
theorem rread4_few (A : Option Addr) (n c : Nat) (b : List UInt8) (hn : b.length = n) (_ : n ≤ c) (hm : n ≤ 60000) (w : World) (hb : Lies u8v w A b) (h0 : 4 ≤ n) (h1 : n < 6) (h2 : b.getD 2 0 = 0) (h3 : b.getD 3 0 = 0) :
    Calls Try.prog 18 #[.slice A n c] w (ReadPost w b) := by
    have HC := Lib.hid (Mb.codeB_few b (.inr ⟨h2, h3⟩) (by omega))
    obtain ⟨b1, o1, rfl, hlt1, _⟩ := hb.at_ (by omega)
    have hc2 := lies_get hb 2 (by omega)
    have hc3 := lies_get hb 3 (by omega)
    have e2 := byte_eq h2
    have e3 := byte_eq h3
    generalize b.getD 2 0 = x2 at *
    generalize b.getD 3 0 = x3 at *
    clear hn hb h2 h3
    go_enter Try.func18, Try.ntmps18
    go_wp2
    refine bodyPost_ret_by (v := .tuple #[.agg #[.int .u16 0, .int .u8 0, .slice none 0 0], .int .i64 0, .int .i64 3]) (by simp [results, Try.f18, go_sem]) rfl ?_
    exact ReadPost.bad _ _ _ 3 HC.out (by omega) ((Below.refl _ _).alloc (Nat.le_refl _) _)

set_option maxRecDepth 100000 in
set_option maxHeartbeats 400000 in
theorem rread4_low (A : Option Addr) (n c : Nat) (b : List UInt8) (hn : b.length = n) (_ : n ≤ c) (hm : n ≤ 60000) (w : World) (hb : Lies u8v w A b) (h0 : 6 ≤ n) (h2 : b.getD 2 0 = 0) (h3 : b.getD 3 0 = 0) (hf : Mb.follow b < 2) :
    Calls Try.prog 18 #[.slice A n c] w (ReadPost w b) := by
    have HC := Lib.hid (Mb.codeB_odd b (by omega) (.inl hf))
    obtain ⟨b1, o1, rfl, hlt1, _⟩ := hb.at_ (by omega)
    have hc2 := lies_get hb 2 (by omega)
    have hc3 := lies_get hb 3 (by omega)
    have hc4 := lies_get hb 4 (by omega)
    have hc5 := lies_get hb 5 (by omega)
    have e2 := byte_eq h2
    have e3 := byte_eq h3
    have l4 := (b.getD 4 0).toNat_lt
    have l5 := (b.getD 5 0).toNat_lt
    have hfe : Mb.follow b = 256 * (b.getD 4 0).toNat + (b.getD 5 0).toNat := rfl
    generalize b.getD 2 0 = x2 at *
    generalize b.getD 3 0 = x3 at *
    generalize b.getD 4 0 = x4 at *
    generalize b.getD 5 0 = x5 at *
    have hx : (256 : Int) * x4.toNat + x5.toNat < 2 := by omega
    clear hn hb h2 h3 hfe
    go_enter Try.func18, Try.ntmps18
    go_wp2
    go_quiet (fail)
    go_wp2
    refine bodyPost_ret_by (v := .tuple #[.agg #[.int .u16 0, .int .u8 0, .slice none 0 0], .int .i64 0, .int .i64 2]) (by simp [results, Try.f18, go_sem]) rfl ?_
    exact ReadPost.bad _ _ _ 2 HC.out (by omega) ((((drewN_below ((Below.refl _ w).alloc (Nat.le_refl _) _) _).setCell (p := ⟨w.heap.size, 0, none⟩) (Nat.le_refl _) _).setCell (p := ⟨w.heap.size, 1, none⟩) (Nat.le_refl _) _).setCell (p := ⟨w.heap.size, 2, none⟩) (Nat.le_refl _) _)

set_option maxRecDepth 100000 in
set_option maxHeartbeats 400000 in
theorem rread4_high (A : Option Addr) (n c : Nat) (b : List UInt8) (hn : b.length = n) (_ : n ≤ c) (hm : n ≤ 60000) (w : World) (hb : Lies u8v w A b) (h0 : 6 ≤ n) (h2 : b.getD 2 0 = 0) (h3 : b.getD 3 0 = 0) (hf : 254 < Mb.follow b) :
    Calls Try.prog 18 #[.slice A n c] w (ReadPost w b) := by
    have HC := Lib.hid (Mb.codeB_odd b (by omega) (.inr hf))
    obtain ⟨b1, o1, rfl, hlt1, _⟩ := hb.at_ (by omega)
    have hc2 := lies_get hb 2 (by omega)
    have hc3 := lies_get hb 3 (by omega)
    have hc4 := lies_get hb 4 (by omega)
    have hc5 := lies_get hb 5 (by omega)
    have e2 := byte_eq h2
    have e3 := byte_eq h3
    have l4 := (b.getD 4 0).toNat_lt
    have l5 := (b.getD 5 0).toNat_lt
    have hfe : Mb.follow b = 256 * (b.getD 4 0).toNat + (b.getD 5 0).toNat := rfl
    generalize b.getD 2 0 = x2 at *
    generalize b.getD 3 0 = x3 at *
    generalize b.getD 4 0 = x4 at *
    generalize b.getD 5 0 = x5 at *
    have hx : ¬ (256 : Int) * x4.toNat + x5.toNat < 2 := by omega
    have hy : (254 : Int) < 256 * x4.toNat + x5.toNat := by omega
    clear hn hb h2 h3 hfe
    go_enter Try.func18, Try.ntmps18
    go_wp2
    go_quiet (fail)
    go_wp2
    refine bodyPost_ret_by (v := .tuple #[.agg #[.int .u16 0, .int .u8 0, .slice none 0 0], .int .i64 0, .int .i64 2]) (by simp [results, Try.f18, go_sem]) rfl ?_
    exact ReadPost.bad _ _ _ 2 HC.out (by omega) ((((drewN_below ((Below.refl _ w).alloc (Nat.le_refl _) _) _).setCell (p := ⟨w.heap.size, 0, none⟩) (Nat.le_refl _) _).setCell (p := ⟨w.heap.size, 1, none⟩) (Nat.le_refl _) _).setCell (p := ⟨w.heap.size, 2, none⟩) (Nat.le_refl _) _)

set_option maxRecDepth 100000 in
set_option maxHeartbeats 400000 in
theorem rread4_short (A : Option Addr) (n c : Nat) (b : List UInt8) (hn : b.length = n) (_ : n ≤ c) (hm : n ≤ 60000) (w : World) (hb : Lies u8v w A b) (h0 : 6 ≤ n) (h2 : b.getD 2 0 = 0) (h3 : b.getD 3 0 = 0) (hf1 : 2 ≤ Mb.follow b) (hf2 : Mb.follow b ≤ 254) (hs : n < 6 + Mb.follow b) :
    Calls Try.prog 18 #[.slice A n c] w (ReadPost w b) := by
    have HC := Lib.hid (Mb.codeB_short b h2 h3 hf1 hf2 (.inr (by omega)))
    obtain ⟨b1, o1, rfl, hlt1, _⟩ := hb.at_ (by omega)
    have hc2 := lies_get hb 2 (by omega)
    have hc3 := lies_get hb 3 (by omega)
    have hc4 := lies_get hb 4 (by omega)
    have hc5 := lies_get hb 5 (by omega)
    have e2 := byte_eq h2
    have e3 := byte_eq h3
    have l4 := (b.getD 4 0).toNat_lt
    have l5 := (b.getD 5 0).toNat_lt
    have hfe : Mb.follow b = 256 * (b.getD 4 0).toNat + (b.getD 5 0).toNat := rfl
    generalize b.getD 2 0 = x2 at *
    generalize b.getD 3 0 = x3 at *
    generalize b.getD 4 0 = x4 at *
    generalize b.getD 5 0 = x5 at *
    have hx : ¬ (256 : Int) * x4.toNat + x5.toNat < 2 := by omega
    have hy : ¬ (254 : Int) < 256 * x4.toNat + x5.toNat := by omega
    have hz : ((n : Int) < 7) ∨ ((¬ (n : Int) < 7) ∧ (n : Int) < 6 + (256 * x4.toNat + x5.toNat)) := by omega
    clear hn hb h2 h3 hfe
    rcases hz with hz | ⟨hz, hz'⟩
    all_goals
      go_enter Try.func18, Try.ntmps18
      go_wp2
      go_quiet (fail)
      go_wp2
      refine bodyPost_ret_by (v := .tuple #[.agg #[.int .u16 0, .int .u8 0, .slice none 0 0], .int .i64 0, .int .i64 3]) (by simp [results, Try.f18, go_sem]) rfl ?_
      exact ReadPost.bad _ _ _ 3 HC.out (by omega) ((((drewN_below ((Below.refl _ w).alloc (Nat.le_refl _) _) _).setCell (p := ⟨w.heap.size, 0, none⟩) (Nat.le_refl _) _).setCell (p := ⟨w.heap.size, 1, none⟩) (Nat.le_refl _) _).setCell (p := ⟨w.heap.size, 2, none⟩) (Nat.le_refl _) _)

set_option maxRecDepth 100000 in
set_option maxHeartbeats 4000000 in
theorem rread4_good (A : Option Addr) (n c : Nat) (b : List UInt8) (hn : b.length = n) (hnc : n ≤ c) (hm : n ≤ 60000) (w : World) (hb : Lies u8v w A b) (h0 : 6 ≤ n) (h2 : b.getD 2 0 = 0) (h3 : b.getD 3 0 = 0) (hf1 : 2 ≤ Mb.follow b) (hf2 : Mb.follow b ≤ 254) (hs : 6 + Mb.follow b ≤ n) :
    Calls Try.prog 18 #[.slice A n c] w (ReadPost w b) := by
    have HC := Lib.hid (Mb.codeB_good b h2 h3 hf1 hf2 (by omega))
    have hmx : Try.prog.follows .mixedOrders = true := by kernel_rfl
    obtain ⟨b1, o1, rfl, hlt1, _⟩ := hb.at_ (by omega)
    have hc2 := lies_get hb 2 (by omega)
    have hc3 := lies_get hb 3 (by omega)
    have hc0 := lies_get hb 0 (by omega)
    have hc1 := lies_get hb 1 (by omega)
    have hc6 := lies_get hb 6 (by omega)
    have hc4 := lies_get hb 4 (by omega)
    have hc5 := lies_get hb 5 (by omega)
    have e2 := byte_eq h2
    have e3 := byte_eq h3
    have l4 := (b.getD 4 0).toNat_lt
    have l5 := (b.getD 5 0).toNat_lt
    have HD := Lib.hid ((hb.drop 7).take (Mb.follow b - 1))
    have hfe : Mb.follow b = 256 * (b.getD 4 0).toNat + (b.getD 5 0).toNat := rfl
    generalize b.getD 2 0 = x2 at *
    generalize b.getD 3 0 = x3 at *
    generalize b.getD 4 0 = x4 at *
    generalize b.getD 5 0 = x5 at *
    obtain ⟨f, hff⟩ : ∃ f, Mb.follow b = f := ⟨_, rfl⟩
    rw [hff] at hfe hf1 hf2 hs
    have HF := Lib.hid hff
    have hw : (256 : Int) * x4.toNat + x5.toNat = (f : Int) := by omega
    have hx : ¬ (f : Int) < 2 := by omega
    have hy : ¬ (254 : Int) < (f : Int) := by omega
    have hz : ¬ (n : Int) < 7 := by omega
    have hz' : ¬ (n : Int) < 6 + (f : Int) := by omega
    clear h2 h3 hfe hff
    go_enter Try.func18, Try.ntmps18
    go_wp2
    go_quiet (fail)
    go_wp2
    have l0 := (b.getD 0 0).toNat_lt
    have l1 := (b.getD 1 0).toNat_lt
    have HT : Hid (UInt16.ofNat (256 * (b.getD 0 0).toNat + (b.getD 1 0).toNat) = UInt16.ofNat (256 * (b.getD 0 0).toNat + (b.getD 1 0).toNat)) := Lib.hid rfl
    obtain ⟨x0, hx0⟩ : ∃ x, b.getD 0 0 = x := ⟨_, rfl⟩
    obtain ⟨x1, hx1⟩ : ∃ x, b.getD 1 0 = x := ⟨_, rfl⟩
    obtain ⟨x6, hx6⟩ : ∃ x, b.getD 6 0 = x := ⟨_, rfl⟩
    rw [hx0] at hc0 l0
    rw [hx1] at hc1 l1
    rw [hx6] at hc6
    have HX := Lib.hid (And.intro hx0 (And.intro hx1 hx6))
    have i0 : 0 < n := by omega
    have i1 : (1 : Int) < (n : Int) := by omega
    have i6 : (6 : Int) < (n : Int) := by omega
    obtain ⟨z, hzf⟩ : ∃ z, 6 + f = z := ⟨_, rfl⟩
    have i7 : IntKind.i64.wrap (6 + (f : Int)) = (z : Int) := by rw [← hzf]; rw [IntKind.wrap_i64]; omega
    have i8 : z ≤ c := by omega
    have i9 : 7 ≤ z := by omega
    have i9' : (7 : Int) ≤ (z : Int) := by omega
    have i10 : max (z : Int) 0 = (z : Int) := by omega
    have i11 : ¬ c = 7 := by omega
    clear hx0 hx1 hx6 HT
    have hbe : Below w.heap.size w ((w.alloc (.cells #[.int .u16 0, .int .u8 0, .slice none 0 0] 55)).drewN nq) := drewN_below ((Below.refl _ w).alloc (Nat.le_refl _) _) _
    have hrow : ((w.alloc (.cells #[.int .u16 0, .int .u8 0, .slice none 0 0] 55)).drewN nq).heap[w.heap.size]? = some (.cells #[.int .u16 0, .int .u8 0, .slice none 0 0] 55) := heap_alloc_new w _
    obtain ⟨hr0, hr1, hr2⟩ := row_three hrow
    obtain ⟨hz0, hz1, hz2⟩ := row_three_free hrow
    have hd0 : ((w.alloc (.cells #[.int .u16 0, .int .u8 0, .slice none 0 0] 55)).drewN nq).cell? ⟨b1, o1, none⟩ = some _ := (hbe.cell (p := ⟨b1, o1 + 0, none⟩) hlt1).trans hc0
    have hd1 : ((w.alloc (.cells #[.int .u16 0, .int .u8 0, .slice none 0 0] 55)).drewN nq).cell? ⟨b1, o1 + 1, none⟩ = some _ := (hbe.cell (p := ⟨b1, o1 + 1, none⟩) hlt1).trans hc1
    have hd6 : ((w.alloc (.cells #[.int .u16 0, .int .u8 0, .slice none 0 0] 55)).drewN nq).cell? ⟨b1, o1 + 6, none⟩ = some _ := (hbe.cell (p := ⟨b1, o1 + 6, none⟩) hlt1).trans hc6
    have HL := Lib.hid (HD.out.below hbe (Nat.le_refl _))
    have hsz : ((w.alloc (.cells #[.int .u16 0, .int .u8 0, .slice none 0 0] 55)).drewN nq).heap.size = w.heap.size + 1 := by simp
    generalize (w.alloc (.cells #[.int .u16 0, .int .u8 0, .slice none 0 0] 55)).drewN nq = wg at *
    clear hc0 hc1 hc2 hc3 hc4 hc5 hc6 HD hb
    have hwd : Below wg.heap.size wg (wg.alloc (.cells #[] 5)).drew := drewN_below ((Below.refl _ wg).alloc (Nat.le_refl _) _) 1
    have HOWN : Hid ((wg.alloc (.cells #[] 5)).drew.ownsRow wg.heap.size 5 1 (.slice (some ⟨wg.heap.size, 0, none⟩) 0 0) 0 (([] : List UInt8).map u8v)) := Lib.hid (own_lit u8v wg #[] _ _ _ 0 [] rfl rfl (Nat.le_refl _) rfl (Nat.zero_le _))
    have HLD := Lib.hid (HL.out.below hwd (Nat.le_refl _))
    have HLN : Hid (((b.drop 7).take (Mb.follow b - 1)).length = z - 7) := Lib.hid (by rw [List.length_take, List.length_drop, HF.out]; omega)
    have HLN' := HLN
    obtain ⟨T, hTT⟩ : ∃ T : UInt16, UInt16.ofNat (256 * x0.toNat + x1.toNat) = T := ⟨_, rfl⟩
    have HT := Lib.hid hTT
    have HW : Hid (IntKind.u16.wrap (IntKind.u16.wrap (256 * IntKind.u16.wrap (x0.toNat : Int)) + IntKind.u16.wrap (x1.toNat : Int)) = (T.toNat : Int)) := Lib.hid (by
      rw [← hTT, UInt16.toNat_ofNat', IntKind.wrap_u16, IntKind.wrap_u16, IntKind.wrap_u16, IntKind.wrap_u16]
      omega)
    have HK : Hid (∀ w2 : World, Below wg.heap.size (wg.alloc (.cells #[] 5)).drew w2 → w2.heap[w.heap.size]? = some (.cells #[.int .u16 0, .int .u8 0, .slice none 0 0] 55) ∧ Below w.heap.size w w2 ∧ w2.cell? ⟨b1, o1, none⟩ = some (.int .u8 (x0.toNat : Int)) ∧ w2.cell? ⟨b1, o1 + 1, none⟩ = some (.int .u8 (x1.toNat : Int)) ∧ w2.cell? ⟨b1, o1 + 6, none⟩ = some (.int .u8 (x6.toNat : Int))) := Lib.hid (by
      intro w2 h2
      have h3 := hwd.trans h2
      exact ⟨(h3.block _ (by omega)).trans hrow, hbe.trans (h3.mono (by omega)), (h3.cell (p := ⟨b1, o1, none⟩) (by show b1 < _; omega)).trans hd0, (h3.cell (p := ⟨b1, o1 + 1, none⟩) (by show b1 < _; omega)).trans hd1, (h3.cell (p := ⟨b1, o1 + 6, none⟩) (by show b1 < _; omega)).trans hd6⟩)
    have hltg : b1 < wg.heap.size := by omega
    have HNE : Hid (b1 ≠ w.heap.size) := Lib.hid (by omega)
    have HSZ : Hid (w.heap.size < wg.heap.size) := Lib.hid (by omega)
    have hzc : z - 7 ≤ 300 := by omega
    clear hrow hbe hwd hsz hTT
    go_region_held3 (fun w' => w'.cell? ⟨b1, o1, none⟩ = some (.int .u8 (x0.toNat : Int)) ∧ w'.cell? ⟨b1, o1 + 1, none⟩ = some (.int .u8 (x1.toNat : Int)) ∧ w'.cell? ⟨b1, o1 + 6, none⟩ = some (.int .u8 (x6.toNat : Int))) (first | exact ⟨hg0, hg1, hg6⟩ | exact ⟨(three_far HNE.out _ _ _).trans hg0, (three_far HNE.out _ _ _).trans hg1, (three_far HNE.out _ _ _).trans hg6⟩ | go_keep) (first | (refine step_append_own kit8 one8 _ (by rfl) (.tmp 66) (.tmp 70) (by rfl) wg.heap.size _ 0 [] (by rfl) HOWN.out (some ⟨b1, o1 + 7, none⟩) (z - 7) (c - 7) _ (by rfl) HLN.out HLD.out (by omega) (by unfold maxLen; omega) (by simp) ?_; intro A2 c2 w2 hown2 _ hb2; obtain ⟨hrow2, hbw2, hg0, hg1, hg6⟩ := HK.out w2 hb2; obtain ⟨hr0', hr1', hr2'⟩ := row_three hrow2; obtain ⟨hz0', hz1', hz2'⟩ := row_three_free hrow2))
    go_wp2
    rw [HW.out]
    obtain ⟨hs0, hs1, hs2⟩ := row_three (three_stored hrow2 (.int .u16 (T.toNat : Int)) (.int .u8 (x6.toNat : Int)) (.slice A2 (z - 7) c2))
    refine bodyPost_ret_by (v := .tuple #[.agg #[u16v T, u8v x6, .slice A2 (z - 7) c2], .int .i64 (z : Int), .int .i64 0]) (by simp [results, Try.f18, go_sem, hs0, hs1, hs2]) rfl ?_
    have hown3 : w2.ownsRow wg.heap.size 5 1 (.slice A2 (z - 7) c2) (z - 7) (((b.drop 7).take (Mb.follow b - 1)).map u8v) := by simpa using hown2
    obtain ⟨hq1, hq2, _, hy⟩ := own_at hown3
    have hlt := HSZ.out
    exact ReadPost.good _ _ _ _ _ _ _ _ _ HC.out (by rw [HX.out.1, HX.out.2.1, HT.out]) HX.out.2.2 (by rw [HF.out]; exact hzf) (by rw [HF.out]; omega) hq1 hq2 (lies_three hy (fun b' o' s' e hp => by
      intro e'
      subst e'
      have := own_block hown3 e (by rw [HLN'.out] at hp; exact hp)
      omega) _ _ _) (below_three hbw2 (Nat.le_refl _) _ _ _) (fun b' o' s' e hp => by have := own_block hown3 e hp; omega)

theorem rread4_any (A : Option Addr) (n c : Nat) (b : List UInt8) (hn : b.length = n) (hnc : n ≤ c) (hm : n ≤ 60000) (w : World) (hb : Lies u8v w A b) :
    Calls Try.prog 18 #[.slice A n c] w (ReadPost w b) := by
  by_cases h0 : n < 4
  · exact rread4_none A n c b hn hnc hm w hb h0
  · by_cases h2 : b.getD 2 0 = 0
    · by_cases h3 : b.getD 3 0 = 0
      · by_cases h6 : n < 6
        · exact rread4_few A n c b hn hnc hm w hb (by omega) h6 h2 h3
        · by_cases hf : Mb.follow b < 2
          · exact rread4_low A n c b hn hnc hm w hb (by omega) h2 h3 hf
          · by_cases hg : 254 < Mb.follow b
            · exact rread4_high A n c b hn hnc hm w hb (by omega) h2 h3 hg
            · by_cases hs : n < 6 + Mb.follow b
              · exact rread4_short A n c b hn hnc hm w hb (by omega) h2 h3 (by omega) (by omega) hs
              · exact rread4_good A n c b hn hnc hm w hb (by omega) h2 h3 (by omega) (by omega) (by omega)
      · exact rread4_three A n c b hn hnc hm w hb (by omega) h2 h3
    · exact rread4_two A n c b hn hnc hm w hb (by omega) h2

end Go.Proofs.Ytophchhienlafaa
