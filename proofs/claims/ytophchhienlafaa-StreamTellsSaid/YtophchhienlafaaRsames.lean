/-
  The document's 'are frames the same', walked.
-/
import Derived.Test.YtophchhienlafaaFr
import Derived.Test.YtophchhienlafaaRsame
import Derived.Deep.RegionHeld3
namespace Go.Proofs.Ytophchhienlafaa
open Go.RowKit

theorem fr_same (x y : Fr) : Mb.same x.t x.u x.p y.t y.u y.p = decide (x = y) := by
  obtain ⟨t, u, p⟩ := x
  obtain ⟨s, v, q⟩ := y
  unfold Mb.same
  by_cases h : t = s ∧ u = v ∧ p = q
  · obtain ⟨rfl, rfl, rfl⟩ := h
    simp
  · rw [decide_eq_false (by rintro e; cases e; exact h ⟨rfl, rfl, rfl⟩)]
    rw [Bool.and_eq_false_iff, Bool.and_eq_false_iff, beq_eq_false_iff_ne, beq_eq_false_iff_ne, beq_eq_false_iff_ne]
    by_cases h1 : t = s
    · by_cases h2 : u = v
      · exact .inr fun e => h ⟨h1, h2, e⟩
      · exact .inl (.inr h2)
    · exact .inl (.inl h1)

set_option maxRecDepth 100000 in
set_option maxHeartbeats 1000000 in
theorem rsames5_any (A B : Option Addr) (n m c d : Nat) (l k : List Fr) (hn : l.length = n) (hm : k.length = m) (hmn : n ≤ maxLen) (w : World) (h1 : FrsAt w A l) (h2 : FrsAt w B k) :
    Calls Try.prog 10 #[.slice A n c, .slice B m d] w fun e w' => e = .returned (.bool (decide (l = k))) ∧ Below w.heap.size w w' := by
  subst hn
  subst hm
  unfold maxLen at hmn
  by_cases hlen : l.length = k.length
  · have he : ((l.length : Int) != (k.length : Int)) = false := by rw [hlen]; simp
    have HLEN := Lib.hid hlen
    have hle : l.length ≤ k.length := by omega
    have hmx : Try.prog.follows .mixedOrders = true := by kernel_rfl
    clear hlen
    go_enter Try.func10, Try.ntmps10
    go_wp2
    go_loopw [5] (fun i wr => ∃ j : Nat, j ≤ l.length ∧ i = .int .i64 j ∧ l.take j = k.take j ∧ Below w.heap.size w wr) (fun i _ => l.length - (intOf i).toNat)
    case atStart => exact ⟨0, Nat.zero_le _, rfl, rfl, Below.refl _ _⟩
    case round =>
      obtain ⟨j, hj, rfl, ht, hbe⟩ := hrel
      have HT := Lib.hid ht
      clear ht
      by_cases hlt : j < l.length
      · have hlt2 : j < k.length := by omega
        obtain ⟨b1, o1, g1, rfl, hx1, hc10, hc11, hc12⟩ := (h1.below hbe (Nat.le_refl _)).get j hlt
        obtain ⟨b2, o2, g2, rfl, hx2, hc20, hc21, hc22⟩ := (h2.below hbe (Nat.le_refl _)).get j hlt2
        have hltw1 : b1 < wr.heap.size := World.block_lt_of_cell? _ _ hc10
        have hltw2 : b2 < wr.heap.size := World.block_lt_of_cell? _ _ hc20
        have HX1 := Lib.hid hx1
        have HX2 := Lib.hid hx2
        have i1 : (j : Int) < (l.length : Int) := by omega
        have i2 : (j : Int) < (k.length : Int) := by omega
        obtain ⟨x, hx⟩ : ∃ x, l[j] = x := ⟨_, rfl⟩
        obtain ⟨y, hy⟩ : ∃ y, k[j] = y := ⟨_, rfl⟩
        rw [hx] at hc10 hc11 HX1
        rw [hy] at hc20 hc21 HX2
        have HXY := Lib.hid (And.intro hx hy)
        clear hx1 hx2 hx hy
        have had : Lies u8v wr.drew g1.1 x.p := HX1.out.2.2.2.1
        have hbd : Lies u8v wr.drew g2.1 y.p := HX2.out.2.2.2.1
        have hgm : g1.2.1 ≤ maxLen := Nat.le_trans HX1.out.2.1 HX1.out.2.2.1
        have hsd : Below wr.heap.size wr wr.drew := drewN_below (Below.refl _ _) 1
        have hz := hbe.size
        by_cases hxy : x = y
        · have HS : Hid (l.take (j + 1) = k.take (j + 1)) := Lib.hid (take_step l k j hlt hlt2 HT.out (by rw [HXY.out.1, HXY.out.2, hxy]))
          subst hxy
          have hself := Mb.same_self x.t x.u x.p
          go_wp2
          go_region_held3 (fun w' => w'.cell? ⟨b1, o1 + j * 3, none⟩ = some (u16v x.t) ∧ w'.cell? ⟨b1, o1 + j * 3 + 1, none⟩ = some (u8v x.u) ∧ w'.cell? ⟨b1, o1 + j * 3 + 2, none⟩ = some (.slice g1.1 g1.2.1 g1.2.2) ∧ w'.cell? ⟨b2, o2 + j * 3, none⟩ = some (u16v x.t) ∧ w'.cell? ⟨b2, o2 + j * 3 + 1, none⟩ = some (u8v x.u) ∧ w'.cell? ⟨b2, o2 + j * 3 + 2, none⟩ = some (.slice g2.1 g2.2.1 g2.2.2)) (first | exact ⟨k1, k2, k3, k4, k5, k6⟩ | go_keep) (first | (go_at_call 19; refine (rsame4_any x.t x.t x.u x.u g1.1 g2.1 g1.2.1 g2.2.1 g1.2.2 g2.2.2 x.p x.p HX1.out.1 HX2.out.1 hgm _ had hbd).mono ?_; rintro e w2 ⟨rfl, hs2⟩; rw [hself]; have k1 := cell_later hs2 (p := ⟨b1, o1 + j * 3, none⟩) hc10; have k2 := cell_later hs2 (p := ⟨b1, o1 + j * 3 + 1, none⟩) hc11; have k3 := cell_later hs2 (p := ⟨b1, o1 + j * 3 + 2, none⟩) hc12; have k4 := cell_later hs2 (p := ⟨b2, o2 + j * 3, none⟩) hc20; have k5 := cell_later hs2 (p := ⟨b2, o2 + j * 3 + 1, none⟩) hc21; have k6 := cell_later hs2 (p := ⟨b2, o2 + j * 3 + 2, none⟩) hc22))
          go_wp2
          go_roundw
          case rel => exact ⟨j + 1, by omega, by go_num, HS.out, hbe.trans ((hsd.trans (hs2.mono (Nat.le_refl _))).mono hz)⟩
          case measure => simp [intOf]; omega
        · have HS : Hid (decide (l = k) = false) := Lib.hid (decide_eq_false (by rintro rfl; exact hxy (HXY.out.1.symm.trans HXY.out.2)))
          have hself : Mb.same x.t x.u x.p y.t y.u y.p = false := (fr_same x y).trans (decide_eq_false hxy)
          go_wp2
          go_region_held3 (fun w' => w'.cell? ⟨b1, o1 + j * 3, none⟩ = some (u16v x.t) ∧ w'.cell? ⟨b1, o1 + j * 3 + 1, none⟩ = some (u8v x.u) ∧ w'.cell? ⟨b1, o1 + j * 3 + 2, none⟩ = some (.slice g1.1 g1.2.1 g1.2.2) ∧ w'.cell? ⟨b2, o2 + j * 3, none⟩ = some (u16v y.t) ∧ w'.cell? ⟨b2, o2 + j * 3 + 1, none⟩ = some (u8v y.u) ∧ w'.cell? ⟨b2, o2 + j * 3 + 2, none⟩ = some (.slice g2.1 g2.2.1 g2.2.2)) (first | exact ⟨k1, k2, k3, k4, k5, k6⟩ | go_keep) (first | (go_at_call 19; refine (rsame4_any x.t y.t x.u y.u g1.1 g2.1 g1.2.1 g2.2.1 g1.2.2 g2.2.2 x.p y.p HX1.out.1 HX2.out.1 hgm _ had hbd).mono ?_; rintro e w2 ⟨rfl, hs2⟩; rw [hself]; have k1 := cell_later hs2 (p := ⟨b1, o1 + j * 3, none⟩) hc10; have k2 := cell_later hs2 (p := ⟨b1, o1 + j * 3 + 1, none⟩) hc11; have k3 := cell_later hs2 (p := ⟨b1, o1 + j * 3 + 2, none⟩) hc12; have k4 := cell_later hs2 (p := ⟨b2, o2 + j * 3, none⟩) hc20; have k5 := cell_later hs2 (p := ⟨b2, o2 + j * 3 + 1, none⟩) hc21; have k6 := cell_later hs2 (p := ⟨b2, o2 + j * 3 + 2, none⟩) hc22))
          go_wp2
          go_ret
          exact ⟨by rw [HS.out]; rfl, hbe.trans ((hsd.trans (hs2.mono (Nat.le_refl _))).mono hz)⟩
      · obtain rfl : j = l.length := by omega
        have HS : Hid (decide (l = k) = true) := Lib.hid (by
          have := HT.out
          rw [List.take_length, HLEN.out, List.take_length] at this
          exact decide_eq_true this)
        go_wp2
        go_ret
        exact ⟨by rw [HS.out]; rfl, hbe⟩
  · have he : ((l.length : Int) != (k.length : Int)) = true := by rw [bne_iff_ne]; omega
    have HS : Hid (decide (l = k) = false) := Lib.hid (decide_eq_false (by rintro rfl; exact hlen rfl))
    go_enter Try.func10, Try.ntmps10
    go_wp2
    go_ret
    exact ⟨by rw [HS.out]; rfl, Below.refl _ _⟩
end Go.Proofs.Ytophchhienlafaa
