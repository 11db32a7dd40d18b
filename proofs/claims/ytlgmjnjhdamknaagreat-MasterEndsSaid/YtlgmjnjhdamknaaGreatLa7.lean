
/-
  The landed answer: lay.
-/
import Derived.Test.YtlgmjnjhdamknaaGreatBo7
namespace Go.Proofs.YtlgmjnjhdamknaaGreat
open Go.RowKit

set_option maxRecDepth 100000 in
set_option maxHeartbeats 1000000 in
theorem lay7E_any (a : Ask) (n : Int) (h k hx kx tx : Hd) (w : World) (hc0 : 1 ≤ a.code) (hc1 : a.code ≤ 43) (h0 : 1 ≤ n) (h1 : n ≤ 255) :
    Calls Tryz.prog 50 #[askV a h k, ansV ⟨n, [], [], []⟩ hx kx tx] w (AnTextPost w [An.b1 (128 + a.code.toNat), An.b1 n.toNat]) := by
  have e1 : IntKind.i64.wrap (128 + a.code) = 128 + a.code := by rw [IntKind.wrap_i64]; omega
  have e2 : (128 + a.code) % 256 = 128 + a.code := by omega
  have e3 : n % 256 = n := by omega
  have i0 : (n != 0) = true := by rw [bne_iff_ne]; omega
  obtain ⟨c, hc⟩ := Int.eq_ofNat_of_zero_le (show 0 ≤ a.code by omega)
  obtain ⟨m, rfl⟩ := Int.eq_ofNat_of_zero_le (show 0 ≤ n by omega)
  have hl : Hid (([.int .u8 (128 + a.code), .int .u8 (m : Int)] : List Value) = ([An.b1 (128 + a.code.toNat), An.b1 (m : Int).toNat] : List UInt8).map u8v) := Lib.hid (by
    simp only [List.map_cons, List.map_nil, An.b1]
    rw [u8_ofNat _ (by omega), u8_ofNat _ (by omega), hc]
    simp)
  clear hc
  rw [askV_eq, ansV_eq]
  go_enter Tryz.func50, Tryz.ntmps50
  go_wp2_with fail
  go_ret
  exact ⟨some ⟨w.heap.size + 1 + 1, 0, none⟩, 2, 2, rfl, rfl, Nat.le_refl _, by unfold maxLen; omega, lies_at _ _ _ _ _ hl.out (by simp), (((Below.refl _ w).alloc (Nat.le_refl _) _).alloc (by simp) _).alloc (by simp; omega) _⟩

set_option maxRecDepth 100000 in
set_option maxHeartbeats 1000000 in
theorem lay7B_any (cn : Nat) (addr count to : Int) (words : List UInt16) (bits : List Bool) (and_ or_ : UInt16) (xb : List Bool) (xw : List UInt16) (xt : List ByteArray) (h k hx kx tx : Hd) (w : World) (hcn : cn ≤ 43) (ha : AskIn w ⟨(cn : Int), addr, count, to, words, bits, and_, or_⟩ h k) (hi : AnsIn w ⟨0, xb, xw, xt⟩ hx kx tx) (r : List UInt8) (hrl : r.length ≤ 300)
    (hB : ∀ W, AskIn W ⟨(cn : Int), addr, count, to, words, bits, and_, or_⟩ h k → AnsIn W ⟨0, xb, xw, xt⟩ hx kx tx → Calls Tryz.prog 96 #[askV ⟨(cn : Int), addr, count, to, words, bits, and_, or_⟩ h k, ansV ⟨0, xb, xw, xt⟩ hx kx tx] W (AnTextPost W r)) :
    Calls Tryz.prog 50 #[askV ⟨(cn : Int), addr, count, to, words, bits, and_, or_⟩ h k, ansV ⟨0, xb, xw, xt⟩ hx kx tx] w (AnTextPost w (An.b1 cn :: r)) := by
  have hra := old_at7 (row_at w #[.int .i64 (cn : Int), .int .i64 addr, .int .i64 count, .int .i64 to, .slice h.1 h.2.1 h.2.2, .slice k.1 k.2.1 k.2.2, u16v and_, u16v or_] 40 w.heap.size rfl) (.cells #[.int .i64 0, .slice hx.1 hx.2.1 hx.2.2, .slice kx.1 kx.2.1 kx.2.2, .slice tx.1 tx.2.1 tx.2.2] 46)
  have hrx := row_at (w.alloc (.cells #[.int .i64 (cn : Int), .int .i64 addr, .int .i64 count, .int .i64 to, .slice h.1 h.2.1 h.2.2, .slice k.1 k.2.1 k.2.2, u16v and_, u16v or_] 40)) #[.int .i64 0, .slice hx.1 hx.2.1 hx.2.2, .slice kx.1 kx.2.1 kx.2.2, .slice tx.1 tx.2.1 tx.2.2] 46 (w.heap.size + 1) (by simp)
  have hb0 : Below w.heap.size w ((w.alloc (.cells #[.int .i64 (cn : Int), .int .i64 addr, .int .i64 count, .int .i64 to, .slice h.1 h.2.1 h.2.2, .slice k.1 k.2.1 k.2.2, u16v and_, u16v or_] 40)).alloc (.cells #[.int .i64 0, .slice hx.1 hx.2.1 hx.2.2, .slice kx.1 kx.2.1 kx.2.2, .slice tx.1 tx.2.1 tx.2.2] 46)) := ((Below.refl _ _).alloc (Nat.le_refl _) _).alloc (by simp) _
  have hlt1 : w.heap.size + 1 < ((w.alloc (.cells #[.int .i64 (cn : Int), .int .i64 addr, .int .i64 count, .int .i64 to, .slice h.1 h.2.1 h.2.2, .slice k.1 k.2.1 k.2.2, u16v and_, u16v or_] 40)).alloc (.cells #[.int .i64 0, .slice hx.1 hx.2.1 hx.2.2, .slice kx.1 kx.2.1 kx.2.2, .slice tx.1 tx.2.1 tx.2.2] 46)).heap.size := row_lt hrx
  have hlt0 : w.heap.size < ((w.alloc (.cells #[.int .i64 (cn : Int), .int .i64 addr, .int .i64 count, .int .i64 to, .slice h.1 h.2.1 h.2.2, .slice k.1 k.2.1 k.2.2, u16v and_, u16v or_] 40)).alloc (.cells #[.int .i64 0, .slice hx.1 hx.2.1 hx.2.2, .slice kx.1 kx.2.1 kx.2.2, .slice tx.1 tx.2.1 tx.2.2] 46)).heap.size := row_lt hra
  rw [askV_eq, ansV_eq] at hB
  have HB : Hid (∀ X, Below (((w.alloc (.cells #[.int .i64 (cn : Int), .int .i64 addr, .int .i64 count, .int .i64 to, .slice h.1 h.2.1 h.2.2, .slice k.1 k.2.1 k.2.2, u16v and_, u16v or_] 40)).alloc (.cells #[.int .i64 0, .slice hx.1 hx.2.1 hx.2.2, .slice kx.1 kx.2.1 kx.2.2, .slice tx.1 tx.2.1 tx.2.2] 46))).heap.size ((w.alloc (.cells #[.int .i64 (cn : Int), .int .i64 addr, .int .i64 count, .int .i64 to, .slice h.1 h.2.1 h.2.2, .slice k.1 k.2.1 k.2.2, u16v and_, u16v or_] 40)).alloc (.cells #[.int .i64 0, .slice hx.1 hx.2.1 hx.2.2, .slice kx.1 kx.2.1 kx.2.2, .slice tx.1 tx.2.1 tx.2.2] 46)) X → Calls Tryz.prog 96 #[.agg #[.int .i64 (cn : Int), .int .i64 addr, .int .i64 count, .int .i64 to, .slice h.1 h.2.1 h.2.2, .slice k.1 k.2.1 k.2.2, u16v and_, u16v or_], .agg #[.int .i64 0, .slice hx.1 hx.2.1 hx.2.2, .slice kx.1 kx.2.1 kx.2.2, .slice tx.1 tx.2.1 tx.2.2]] X (AnTextPost X r)) := Lib.hid fun X hX => hB X ((ha.below hb0).below hX) ((hi.below hb0).below hX)
  have HS : Hid (∀ X, Below (((w.alloc (.cells #[.int .i64 (cn : Int), .int .i64 addr, .int .i64 count, .int .i64 to, .slice h.1 h.2.1 h.2.2, .slice k.1 k.2.1 k.2.2, u16v and_, u16v or_] 40)).alloc (.cells #[.int .i64 0, .slice hx.1 hx.2.1 hx.2.2, .slice kx.1 kx.2.1 kx.2.2, .slice tx.1 tx.2.1 tx.2.2] 46))).heap.size ((w.alloc (.cells #[.int .i64 (cn : Int), .int .i64 addr, .int .i64 count, .int .i64 to, .slice h.1 h.2.1 h.2.2, .slice k.1 k.2.1 k.2.2, u16v and_, u16v or_] 40)).alloc (.cells #[.int .i64 0, .slice hx.1 hx.2.1 hx.2.2, .slice kx.1 kx.2.1 kx.2.2, .slice tx.1 tx.2.1 tx.2.2] 46)) X → (X.cell? ⟨w.heap.size, 0, none⟩ = some (.int .i64 (cn : Int)) ∧ X.cell? ⟨w.heap.size, 1, none⟩ = some (.int .i64 addr) ∧ X.cell? ⟨w.heap.size, 2, none⟩ = some (.int .i64 count) ∧ X.cell? ⟨w.heap.size, 3, none⟩ = some (.int .i64 to) ∧ X.cell? ⟨w.heap.size, 4, none⟩ = some (.slice h.1 h.2.1 h.2.2) ∧ X.cell? ⟨w.heap.size, 5, none⟩ = some (.slice k.1 k.2.1 k.2.2) ∧ X.cell? ⟨w.heap.size, 6, none⟩ = some (u16v and_) ∧ X.cell? ⟨w.heap.size, 7, none⟩ = some (u16v or_) ∧ X.cell? ⟨w.heap.size + 1, 0, none⟩ = some (.int .i64 0) ∧ X.cell? ⟨w.heap.size + 1, 1, none⟩ = some (.slice hx.1 hx.2.1 hx.2.2) ∧ X.cell? ⟨w.heap.size + 1, 2, none⟩ = some (.slice kx.1 kx.2.1 kx.2.2) ∧ X.cell? ⟨w.heap.size + 1, 3, none⟩ = some (.slice tx.1 tx.2.1 tx.2.2) ∧ Below (((w.alloc (.cells #[.int .i64 (cn : Int), .int .i64 addr, .int .i64 count, .int .i64 to, .slice h.1 h.2.1 h.2.2, .slice k.1 k.2.1 k.2.2, u16v and_, u16v or_] 40)).alloc (.cells #[.int .i64 0, .slice hx.1 hx.2.1 hx.2.2, .slice kx.1 kx.2.1 kx.2.2, .slice tx.1 tx.2.1 tx.2.2] 46))).heap.size ((w.alloc (.cells #[.int .i64 (cn : Int), .int .i64 addr, .int .i64 count, .int .i64 to, .slice h.1 h.2.1 h.2.2, .slice k.1 k.2.1 k.2.2, u16v and_, u16v or_] 40)).alloc (.cells #[.int .i64 0, .slice hx.1 hx.2.1 hx.2.2, .slice kx.1 kx.2.1 kx.2.2, .slice tx.1 tx.2.1 tx.2.2] 46)) X)) := Lib.hid fun X hX => by
    obtain ⟨r0, r1, r2, r3, r4, r5, r6, r7⟩ := row_eight (row_later hra hX)
    obtain ⟨x0, x1, x2, x3⟩ := row_quad (row_later hrx hX)
    exact ⟨r0, r1, r2, r3, r4, r5, r6, r7, x0, x1, x2, x3, hX⟩
  have HRL := Lib.hid hrl
  rw [askV_eq, ansV_eq]
  clear ha hi hB hrl
  have ec : (cn : Int) % 256 = (cn : Int) := by omega
  have HLIT : Hid ([.int .u8 (IntKind.u8.wrap (cn : Int))] = ([An.b1 cn] : List UInt8).map u8v) := Lib.hid (by rw [IntKind.wrap_u8, ec]; exact b1_row cn (by omega) [] [] rfl)
  have hHS := HS.out _ (Below.refl _ _)
  go_enter Tryz.func50, Tryz.ntmps50
  obtain ⟨r0, -⟩ := row_eight hra
  obtain ⟨x0, -⟩ := row_quad hrx
  clear hra hrx
  go_wp2_with fail
  generalize ((w.alloc (.cells #[.int .i64 (cn : Int), .int .i64 addr, .int .i64 count, .int .i64 to, .slice h.1 h.2.1 h.2.2, .slice k.1 k.2.1 k.2.2, u16v and_, u16v or_] 40)).alloc (.cells #[.int .i64 0, .slice hx.1 hx.2.1 hx.2.2, .slice kx.1 kx.2.1 kx.2.2, .slice tx.1 tx.2.1 tx.2.2] 46)) = W at *
  have HD1 : Hid (Below W.heap.size W W.drew) := Lib.hid (drewN_below (Below.refl _ W) 1)
  have HA1 : Hid (∀ o, Below W.heap.size W (W.alloc o).drew) := Lib.hid fun o => drewN_below ((Below.refl _ W).alloc (Nat.le_refl _) o) 1
  have HOA : Hid ((W.alloc (.cells #[.int .u8 (IntKind.u8.wrap (cn : Int))] 5)).drew.ownsRow W.heap.size 5 1 (.slice (some ⟨W.heap.size, 0, none⟩) 1 1) 1 ([An.b1 cn].map u8v)) := Lib.hid (own_lit u8v W _ _ _ _ 1 _ HLIT.out rfl (Nat.le_refl _) rfl (by unfold maxLen; omega))
  have HOB : Hid (∀ V : World, W.heap.size ≤ V.heap.size → (V.alloc (.cells #[.int .u8 (IntKind.u8.wrap (cn : Int))] 5)).ownsRow W.heap.size 5 1 (.slice (some ⟨V.heap.size, 0, none⟩) 1 1) 1 ([An.b1 cn].map u8v)) := Lib.hid fun V hV => own_lit u8v V _ _ _ _ 1 _ HLIT.out rfl hV rfl (by unfold maxLen; omega)
  have HR : Hid (∀ (A : Option Addr) (n c n2 : Nat) (V : World), r.length = n2 → n = 1 + n2 → V.ownsRow W.heap.size 5 1 (.slice A n c) n (([An.b1 cn] ++ r).map u8v) → Below W.heap.size W V → AnTextPost w (An.b1 cn :: r) (.returned (.slice A n c)) V) := Lib.hid fun A n c n2 V e1 e2 ho hV => LaidPost.text ⟨A, n, c, rfl, by rw [List.length_cons]; omega, own_lower ho hb0.size, hb0.trans (hV.mono hb0.size)⟩
  clear HLIT
  go_region_held3 (fun X => (X.cell? ⟨w.heap.size, 0, none⟩ = some (.int .i64 (cn : Int)) ∧ X.cell? ⟨w.heap.size, 1, none⟩ = some (.int .i64 addr) ∧ X.cell? ⟨w.heap.size, 2, none⟩ = some (.int .i64 count) ∧ X.cell? ⟨w.heap.size, 3, none⟩ = some (.int .i64 to) ∧ X.cell? ⟨w.heap.size, 4, none⟩ = some (.slice h.1 h.2.1 h.2.2) ∧ X.cell? ⟨w.heap.size, 5, none⟩ = some (.slice k.1 k.2.1 k.2.2) ∧ X.cell? ⟨w.heap.size, 6, none⟩ = some (u16v and_) ∧ X.cell? ⟨w.heap.size, 7, none⟩ = some (u16v or_) ∧ X.cell? ⟨w.heap.size + 1, 0, none⟩ = some (.int .i64 0) ∧ X.cell? ⟨w.heap.size + 1, 1, none⟩ = some (.slice hx.1 hx.2.1 hx.2.2) ∧ X.cell? ⟨w.heap.size + 1, 2, none⟩ = some (.slice kx.1 kx.2.1 kx.2.2) ∧ X.cell? ⟨w.heap.size + 1, 3, none⟩ = some (.slice tx.1 tx.2.1 tx.2.2) ∧ Below (W).heap.size W X)) (first | with_reducible assumption | with_reducible exact HS.out _ HD1.out | with_reducible exact HS.out _ (HA1.out _) | with_reducible exact HS.out _ (hW.alloc hz' _) | fail) (first | (go_at_call 96; (first | (with_reducible refine (HB.out _ HD1.out).mono ?_) | (with_reducible refine (HB.out _ (HA1.out _)).mono ?_)); rintro e w' ⟨A2, n2, c2, rfl, g1, g2, g3, g4, hb'⟩; have hrl2 : n2 ≤ 300 := (by have := HRL.out; omega); (first | (have hW := HD1.out.trans (hb'.mono HD1.out.size)) | (have hW := (HA1.out _).trans (hb'.mono (HA1.out _).size); have hoA := own_below HOA.out hb')); have hz' := hW.size; have hh := HS.out _ hW) | (refine step_append_own kit8 one8 _ (by rfl) (.tmp 19) (.tmp 22) (by rfl) W.heap.size _ 1 [An.b1 cn] (by rfl) hoA A2 n2 c2 r (by rfl) g1 g4 (by omega) (by unfold maxLen; omega) hz' ?_; intro A9 c9 w9 hown9 hg9 hb9; have hW9 := hW.trans hb9; have hh9 := HS.out _ hW9) | (refine step_append_own kit8 one8 _ (by rfl) (.tmp 19) (.tmp 22) (by rfl) W.heap.size _ 1 [An.b1 cn] (by rfl) (HOB.out _ hz') A2 n2 c2 r (by rfl) g1 (g4.alloc _) (by omega) (by unfold maxLen; omega) (by simp; omega) ?_; intro A9 c9 w9 hown9 hg9 hb9; have hW9 := (hW.alloc hz' _).trans hb9; have hh9 := HS.out _ hW9) | fail)
  all_goals (
    go_wp2_with fail
    go_ret
    exact HR.out _ _ _ _ _ g1 rfl hown9 hW9)
#print axioms lay7B_any
end Go.Proofs.YtlgmjnjhdamknaaGreat
