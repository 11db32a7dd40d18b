
/-
  The law AskSame, walked: it answers true, and nothing that was there is touched.
-/
import Derived.Test.YtaembpncoicdpaaAwake6
import Derived.Deep.RegionHeld3
import Derived.Deep.DrawnRows
namespace Go.Proofs.Ytaembpncoicdpaa
open Go.RowKit

attribute [local go_sem ↓] Go.wp_at_zero Go.wp_at_succ

set_option maxRecDepth 100000 in
set_option maxHeartbeats 2000000 in
theorem same_law_any (a b : Ask) (h k h' k' : Option Addr × Nat × Nat) (w : World) (ha : AskIn w a h k) (hb : AskIn w b h' k') :
    Calls Try.prog 4 #[askV a h k, askV b h' k'] w fun e w' => e = .returned (.bool true) ∧ Below w.heap.size w w' := by
  rw [(show askV a h k = .agg #[.int .i64 a.code, .int .i64 a.addr, .int .i64 a.count, .int .i64 a.to, .slice h.1 h.2.1 h.2.2, .slice k.1 k.2.1 k.2.2, u16v a.and_, u16v a.or_] from rfl), (show askV b h' k' = .agg #[.int .i64 b.code, .int .i64 b.addr, .int .i64 b.count, .int .i64 b.to, .slice h'.1 h'.2.1 h'.2.2, .slice k'.1 k'.2.1 k'.2.2, u16v b.and_, u16v b.or_] from rfl)]
  have hmx : Try.prog.follows .mixedOrders = true := by kernel_rfl
  go_enter Try.func4, Try.ntmps4
  go_wp2_with fail
  have hbe_ : Below w.heap.size w w := Below.refl _ _
  have hx_ := row_at w #[.int .i64 a.code, .int .i64 a.addr, .int .i64 a.count, .int .i64 a.to, .slice h.1 h.2.1 h.2.2, .slice k.1 k.2.1 k.2.2, u16v a.and_, u16v a.or_] 26 (w.heap.size) rfl
  have hsz0 : (w.alloc (.cells #[.int .i64 a.code, .int .i64 a.addr, .int .i64 a.count, .int .i64 a.to, .slice h.1 h.2.1 h.2.2, .slice k.1 k.2.1 k.2.2, u16v a.and_, u16v a.or_] 26)).heap.size = w.heap.size + 1 := by simp
  have hsb : Below w.heap.size w (w.alloc (.cells #[.int .i64 a.code, .int .i64 a.addr, .int .i64 a.count, .int .i64 a.to, .slice h.1 h.2.1 h.2.2, .slice k.1 k.2.1 k.2.2, u16v a.and_, u16v a.or_] 26)) := (Below.refl _ _).alloc (Nat.le_refl _) _
  have hbe_ := hbe_.trans (hsb.mono (by omega))
  generalize w.alloc (.cells #[.int .i64 a.code, .int .i64 a.addr, .int .i64 a.count, .int .i64 a.to, .slice h.1 h.2.1 h.2.2, .slice k.1 k.2.1 k.2.2, u16v a.and_, u16v a.or_] 26) = wb0 at *
  clear hsb
  have hy_ := row_at wb0 #[.int .i64 b.code, .int .i64 b.addr, .int .i64 b.count, .int .i64 b.to, .slice h'.1 h'.2.1 h'.2.2, .slice k'.1 k'.2.1 k'.2.2, u16v b.and_, u16v b.or_] 26 (w.heap.size + 1) hsz0
  have hsz1 : (wb0.alloc (.cells #[.int .i64 b.code, .int .i64 b.addr, .int .i64 b.count, .int .i64 b.to, .slice h'.1 h'.2.1 h'.2.2, .slice k'.1 k'.2.1 k'.2.2, u16v b.and_, u16v b.or_] 26)).heap.size = w.heap.size + 1 + 1 := by simp [hsz0]
  have hsb : Below wb0.heap.size wb0 (wb0.alloc (.cells #[.int .i64 b.code, .int .i64 b.addr, .int .i64 b.count, .int .i64 b.to, .slice h'.1 h'.2.1 h'.2.2, .slice k'.1 k'.2.1 k'.2.2, u16v b.and_, u16v b.or_] 26)) := (Below.refl _ _).alloc (Nat.le_refl _) _
  have hx_ := row_later hx_ hsb
  have hbe_ := hbe_.trans (hsb.mono (by omega))
  generalize wb0.alloc (.cells #[.int .i64 b.code, .int .i64 b.addr, .int .i64 b.count, .int .i64 b.to, .slice h'.1 h'.2.1 h'.2.2, .slice k'.1 k'.2.1 k'.2.2, u16v b.and_, u16v b.or_] 26) = w0 at *
  clear hsb hsz0
  have hx0 := hx_
  have hy0 := hy_
  have hbe0 := hbe_
  have hz0 := hbe0.size
  have ha0 := ha.below hbe0
  have hb0 := hb.below hbe0
  clear hbe_ hx_ hy_ hsz1  ha hb
  refine (awake_any _).mono ?_
  rintro e w1 ⟨rfl, hs1⟩
  have hbe1 := hbe0.trans (hs1.mono hz0)
  have ha1 := ha0.below hs1
  have hb1 := hb0.below hs1
  have hx1 := row_later hx0 hs1
  have hy1 := row_later hy0 hs1
  have hz1 := hbe1.size
  clear hbe0 hs1 hz0 hx0 hy0 ha0 hb0
  obtain ⟨hqx0, hqx1, hqx2, hqx3, hqx4, hqx5, hqx6, hqx7⟩ := row_eight hx1
  have hltx := row_lt hx1
  obtain ⟨hqy0, hqy1, hqy2, hqy3, hqy4, hqy5, hqy6, hqy7⟩ := row_eight hy1
  have hlty := row_lt hy1
  go_wp2_with fail
  refine (rlarge_any a h k _ ha1).mono ?_
  rintro e w2 ⟨rfl, hs2⟩
  have hbe2 := hbe1.trans (hs2.mono hz1)
  have ha2 := ha1.below hs2
  have hb2 := hb1.below hs2
  have hx2 := row_later hx1 hs2
  have hy2 := row_later hy1 hs2
  have hz2 := hbe2.size
  clear hbe1 hs2 hz1 hx1 hy1 ha1 hb1 hqx0 hqx1 hqx2 hqx3 hqx4 hqx5 hqx6 hqx7 hltx hqy0 hqy1 hqy2 hqy3 hqy4 hqy5 hqy6 hqy7 hlty
  obtain ⟨L1, hL1⟩ : ∃ L, (decide (300 < a.words.length) || decide (3000 < a.bits.length)) = L := ⟨_, rfl⟩
  rw [hL1]
  clear hL1
  cases L1 with
  | true =>
    obtain ⟨hqx0, hqx1, hqx2, hqx3, hqx4, hqx5, hqx6, hqx7⟩ := row_eight hx2
    have hltx := row_lt hx2
    obtain ⟨hqy0, hqy1, hqy2, hqy3, hqy4, hqy5, hqy6, hqy7⟩ := row_eight hy2
    have hlty := row_lt hy2
    go_wp2_with fail
    go_ret
    exact ⟨rfl, hbe2⟩
  | false =>
    obtain ⟨hqx0, hqx1, hqx2, hqx3, hqx4, hqx5, hqx6, hqx7⟩ := row_eight hx2
    have hltx := row_lt hx2
    obtain ⟨hqy0, hqy1, hqy2, hqy3, hqy4, hqy5, hqy6, hqy7⟩ := row_eight hy2
    have hlty := row_lt hy2
    go_wp2_with fail
    refine (rlarge_any b h' k' _ hb2).mono ?_
    rintro e w3 ⟨rfl, hs3⟩
    have hbe3 := hbe2.trans (hs3.mono hz2)
    have ha3 := ha2.below hs3
    have hb3 := hb2.below hs3
    have hx3 := row_later hx2 hs3
    have hy3 := row_later hy2 hs3
    have hz3 := hbe3.size
    clear hbe2 hs3 hz2 hx2 hy2 ha2 hb2 hqx0 hqx1 hqx2 hqx3 hqx4 hqx5 hqx6 hqx7 hltx hqy0 hqy1 hqy2 hqy3 hqy4 hqy5 hqy6 hqy7 hlty
    obtain ⟨L2, hL2⟩ : ∃ L, (decide (300 < b.words.length) || decide (3000 < b.bits.length)) = L := ⟨_, rfl⟩
    rw [hL2]
    clear hL2
    cases L2 with
    | true =>
      obtain ⟨hqx0, hqx1, hqx2, hqx3, hqx4, hqx5, hqx6, hqx7⟩ := row_eight hx3
      have hltx := row_lt hx3
      obtain ⟨hqy0, hqy1, hqy2, hqy3, hqy4, hqy5, hqy6, hqy7⟩ := row_eight hy3
      have hlty := row_lt hy3
      go_wp2_with fail
      go_ret
      exact ⟨rfl, hbe3⟩
    | false =>
      generalize w.heap.size + 1 = gy at *
      have HS : Hid (∀ W : World, Below w3.heap.size w3 W → W.cell? ⟨w.heap.size, 0, none⟩ = some (.int .i64 a.code) ∧ W.cell? ⟨w.heap.size, 1, none⟩ = some (.int .i64 a.addr) ∧ W.cell? ⟨w.heap.size, 2, none⟩ = some (.int .i64 a.count) ∧ W.cell? ⟨w.heap.size, 3, none⟩ = some (.int .i64 a.to) ∧ W.cell? ⟨w.heap.size, 4, none⟩ = some (.slice h.1 h.2.1 h.2.2) ∧ W.cell? ⟨w.heap.size, 5, none⟩ = some (.slice k.1 k.2.1 k.2.2) ∧ W.cell? ⟨w.heap.size, 6, none⟩ = some (u16v a.and_) ∧ W.cell? ⟨w.heap.size, 7, none⟩ = some (u16v a.or_) ∧ W.cell? ⟨gy, 0, none⟩ = some (.int .i64 b.code) ∧ W.cell? ⟨gy, 1, none⟩ = some (.int .i64 b.addr) ∧ W.cell? ⟨gy, 2, none⟩ = some (.int .i64 b.count) ∧ W.cell? ⟨gy, 3, none⟩ = some (.int .i64 b.to) ∧ W.cell? ⟨gy, 4, none⟩ = some (.slice h'.1 h'.2.1 h'.2.2) ∧ W.cell? ⟨gy, 5, none⟩ = some (.slice k'.1 k'.2.1 k'.2.2) ∧ W.cell? ⟨gy, 6, none⟩ = some (u16v b.and_) ∧ W.cell? ⟨gy, 7, none⟩ = some (u16v b.or_)) := Lib.hid (fun W hW => by
        obtain ⟨p0, p1, p2, p3, p4, p5, p6, p7⟩ := row_eight (row_later hx3 hW)
        obtain ⟨q0, q1, q2, q3, q4, q5, q6, q7⟩ := row_eight (row_later hy3 hW)
        exact ⟨p0, p1, p2, p3, p4, p5, p6, p7, q0, q1, q2, q3, q4, q5, q6, q7⟩)
      have C1 : Hid (∀ W : World, Below w3.heap.size w3 W → Calls Try.prog 10 #[.agg #[.int .i64 a.code, .int .i64 a.addr, .int .i64 a.count, .int .i64 a.to, .slice h.1 h.2.1 h.2.2, .slice k.1 k.2.1 k.2.2, u16v a.and_, u16v a.or_], .agg #[.int .i64 b.code, .int .i64 b.addr, .int .i64 b.count, .int .i64 b.to, .slice h'.1 h'.2.1 h'.2.2, .slice k'.1 k'.2.1 k'.2.2, u16v b.and_, u16v b.or_]] W fun e w' => e = .returned (.bool (Ak.same a b)) ∧ Below w3.heap.size w3 w') := Lib.hid (fun W hW => (same6_any a b h k h' k' W (ha3.below hW) (hb3.below hW)).mono (by
        rintro e w' ⟨rfl, hb'⟩
        exact ⟨rfl, hW.trans (hb'.mono hW.size)⟩))
      have C2 : Hid (∀ W : World, Below w3.heap.size w3 W → Calls Try.prog 12 #[.agg #[.int .i64 a.code, .int .i64 a.addr, .int .i64 a.count, .int .i64 a.to, .slice h.1 h.2.1 h.2.2, .slice k.1 k.2.1 k.2.2, u16v a.and_, u16v a.or_], .agg #[.int .i64 b.code, .int .i64 b.addr, .int .i64 b.count, .int .i64 b.to, .slice h'.1 h'.2.1 h'.2.2, .slice k'.1 k'.2.1 k'.2.2, u16v b.and_, u16v b.or_]] W fun e w' => e = .returned (.bool (Ak.same a b)) ∧ Below w3.heap.size w3 w') := Lib.hid (fun W hW => (rsame6_any a b h k h' k' W (ha3.below hW) (hb3.below hW)).mono (by
        rintro e w' ⟨rfl, hb'⟩
        exact ⟨rfl, hW.trans (hb'.mono hW.size)⟩))
      have C3 : Hid (∀ W : World, Below w3.heap.size w3 W → Calls Try.prog 10 #[.agg #[.int .i64 a.code, .int .i64 a.addr, .int .i64 a.count, .int .i64 a.to, .slice h.1 h.2.1 h.2.2, .slice k.1 k.2.1 k.2.2, u16v a.and_, u16v a.or_], .agg #[.int .i64 a.code, .int .i64 a.addr, .int .i64 a.count, .int .i64 a.to, .slice h.1 h.2.1 h.2.2, .slice k.1 k.2.1 k.2.2, u16v a.and_, u16v a.or_]] W fun e w' => e = .returned (.bool (true)) ∧ Below w3.heap.size w3 w') := Lib.hid (fun W hW => (Ak.same_self a ▸ same6_any a a h k h k W (ha3.below hW) (ha3.below hW)).mono (by
        rintro e w' ⟨rfl, hb'⟩
        exact ⟨rfl, hW.trans (hb'.mono hW.size)⟩))
      have C4 : Hid (∀ W : World, Below w3.heap.size w3 W → Calls Try.prog 10 #[.agg #[.int .i64 b.code, .int .i64 b.addr, .int .i64 b.count, .int .i64 b.to, .slice h'.1 h'.2.1 h'.2.2, .slice k'.1 k'.2.1 k'.2.2, u16v b.and_, u16v b.or_], .agg #[.int .i64 a.code, .int .i64 a.addr, .int .i64 a.count, .int .i64 a.to, .slice h.1 h.2.1 h.2.2, .slice k.1 k.2.1 k.2.2, u16v a.and_, u16v a.or_]] W fun e w' => e = .returned (.bool (Ak.same a b)) ∧ Below w3.heap.size w3 w') := Lib.hid (fun W hW => (Ak.same_comm b a ▸ same6_any b a h' k' h k W (hb3.below hW) (ha3.below hW)).mono (by
        rintro e w' ⟨rfl, hb'⟩
        exact ⟨rfl, hW.trans (hb'.mono hW.size)⟩))
      have hst : Below w3.heap.size w3 w3 := Below.refl _ _
      have hsd : Below w3.heap.size w3 w3.drew := drewN_below (Below.refl _ _) 1
      obtain ⟨V, hV⟩ : ∃ V, Ak.same a b = V := ⟨_, rfl⟩
      rw [hV] at C1 C2 C4
      have HBE := Lib.hid hbe3
      have HZ := Lib.hid hz3
      clear ha3 hb3 hx3 hy3 hbe3 hz3 hst hV
      go_wp2_with fail
      go_region_held3 (fun w' => w'.cell? ⟨w.heap.size, 0, none⟩ = some (.int .i64 a.code) ∧ w'.cell? ⟨w.heap.size, 1, none⟩ = some (.int .i64 a.addr) ∧ w'.cell? ⟨w.heap.size, 2, none⟩ = some (.int .i64 a.count) ∧ w'.cell? ⟨w.heap.size, 3, none⟩ = some (.int .i64 a.to) ∧ w'.cell? ⟨w.heap.size, 4, none⟩ = some (.slice h.1 h.2.1 h.2.2) ∧ w'.cell? ⟨w.heap.size, 5, none⟩ = some (.slice k.1 k.2.1 k.2.2) ∧ w'.cell? ⟨w.heap.size, 6, none⟩ = some (u16v a.and_) ∧ w'.cell? ⟨w.heap.size, 7, none⟩ = some (u16v a.or_) ∧ w'.cell? ⟨gy, 0, none⟩ = some (.int .i64 b.code) ∧ w'.cell? ⟨gy, 1, none⟩ = some (.int .i64 b.addr) ∧ w'.cell? ⟨gy, 2, none⟩ = some (.int .i64 b.count) ∧ w'.cell? ⟨gy, 3, none⟩ = some (.int .i64 b.to) ∧ w'.cell? ⟨gy, 4, none⟩ = some (.slice h'.1 h'.2.1 h'.2.2) ∧ w'.cell? ⟨gy, 5, none⟩ = some (.slice k'.1 k'.2.1 k'.2.2) ∧ w'.cell? ⟨gy, 6, none⟩ = some (u16v b.and_) ∧ w'.cell? ⟨gy, 7, none⟩ = some (u16v b.or_)) (first | exact HS.out _ (by with_reducible assumption) | fail) (first | (go_at_call 10; (with_reducible refine (C1.out _ (by with_reducible assumption)).mono ?_); rintro e w' ⟨rfl, hb'⟩) | (go_at_call 10; (with_reducible refine (C3.out _ (by with_reducible assumption)).mono ?_); rintro e w' ⟨rfl, hb'⟩) | (go_at_call 10; (with_reducible refine (C4.out _ (by with_reducible assumption)).mono ?_); rintro e w' ⟨rfl, hb'⟩) | (go_at_call 12; (with_reducible refine (C2.out _ (by with_reducible assumption)).mono ?_); rintro e w' ⟨rfl, hb'⟩) | fail)
      all_goals go_wp2_with fail
      all_goals go_ret
      all_goals exact ⟨by simp, HBE.out.trans (Below.mono (by with_reducible assumption) HZ.out)⟩
end Go.Proofs.Ytaembpncoicdpaa
