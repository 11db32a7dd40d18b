
/-
  The landed answer: its reader: number, counted, just.
-/
import Derived.Test.YtcbkbdoaaaofjaaGreatRd
import Derived.Test.YtcbkbdoaaaofjaaGreatLm
namespace Go.Proofs.YtcbkbdoaaaofjaaGreat
open Go.RowKit

theorem But.snoc {S : List Nat} {a b c : World} (h : But S a b) (k : But S b c) : But S a c := h.trans k
/-- What number leaves. -/
def NumPost (w : World) (q : Nat) (x : UInt8) (r : List UInt8) (e : Ending) (w' : World) : Prop :=
  e = .returned (.int .i64 (x.toNat : Int)) ∧ RdAt w' q r ∧ But [q] w w'
set_option maxRecDepth 100000 in
set_option maxHeartbeats 1000000 in
theorem number_no (q : Nat) (w : World) (h : RdAt w q []) :
    Calls Tryz.prog 80 #[.pointer (some ⟨q, 0, none⟩)] w (GavePost w q) := by
  have HT := Lib.hid (take_no q 1 [] (by simp) w h)
  clear h
  go_enter Tryz.func80, Tryz.ntmps80
  go_wp2_with fail
  refine (HT.out).mono ?_
  rintro e w' ⟨he, hb⟩
  obtain rfl := he
  go_wp2_with fail
  exact ⟨rfl, rfl, hb⟩
set_option maxRecDepth 100000 in
set_option maxHeartbeats 1000000 in
theorem number_yes (q : Nat) (x : UInt8) (r : List UInt8) (w : World) (h : RdAt w q (x :: r)) :
    Calls Tryz.prog 80 #[.pointer (some ⟨q, 0, none⟩)] w (NumPost w q x r) := by
  have HT := Lib.hid (take_yes q 1 (x :: r) (by simp) w h)
  clear h
  go_enter Tryz.func80, Tryz.ntmps80
  go_wp2_with fail
  refine (HT.out).mono ?_
  rintro e w' ⟨A, c, rfl, h1, h2, h3, h4, h5⟩
  have h3 : Lies u8v w' A [x] := h3
  have h4 : RdAt w' q r := h4
  obtain ⟨b0, o0, rfl, hc⟩ := h3 0 (by simp)
  have hc1 : w'.cell? ⟨b0, o0, none⟩ = some (.int .u8 (x.toNat : Int)) := hc
  have hl : ((x :: r).take 1).length = 1 := by simp
  rw [hl]
  have h01 : (0 : Nat) < 1 := by omega
  have H4 := Lib.hid h4
  have H5 := Lib.hid h5
  have hx := x.toNat_lt
  clear h1 h3 h4 h5 HT hl hc
  obtain ⟨n, hnx⟩ : ∃ n, x.toNat = n := ⟨_, rfl⟩
  rw [hnx] at hc1 hx
  have HX := Lib.hid hnx
  clear hnx
  go_wp2_with fail
  go_ret
  exact ⟨by rw [HX.out]; rfl, H4.out, H5.out⟩

set_option maxRecDepth 100000 in
set_option maxHeartbeats 1000000 in
theorem counted_no (q : Nat) (b : List UInt8) (w : World) (h : RdAt w q b) (hb : An.countedR b = none) :
    Calls Tryz.prog 115 #[.pointer (some ⟨q, 0, none⟩)] w (GavePost w q) := by
  rcases b with _ | ⟨x, r⟩
  · have HT := Lib.hid (number_no q w h)
    clear h hb
    go_enter Tryz.func115, Tryz.ntmps115
    go_wp2_with fail
    refine (HT.out).mono ?_
    rintro e w' ⟨he, hb⟩
    obtain rfl := he
    go_wp2_with fail
    exact ⟨rfl, rfl, hb⟩
  · rw [An.countedR_cons] at hb
    have hn : r.length < x.toNat := by
      split at hb
      · cases hb
      · omega
    have HT := Lib.hid (number_yes q x r w h)
    clear h hb
    go_enter Tryz.func115, Tryz.ntmps115
    go_wp2_with fail
    refine (HT.out).mono ?_
    rintro e w1 ⟨rfl, hr, hb⟩
    have HT := Lib.hid (take_no q x.toNat r hn w1 hr)
    go_wp2_with fail
    refine (HT.out).mono ?_
    rintro e w' ⟨he, hb'⟩
    obtain rfl := he
    go_wp2_with fail
    exact ⟨rfl, rfl, hb.trans hb'⟩
set_option maxRecDepth 100000 in
set_option maxHeartbeats 1000000 in
theorem counted_yes (q : Nat) (b p r : List UInt8) (w : World) (h : RdAt w q b) (hb : An.countedR b = some (p, r)) :
    Calls Tryz.prog 115 #[.pointer (some ⟨q, 0, none⟩)] w (TookPost w q p r) := by
  rcases b with _ | ⟨x, t⟩
  · cases hb
  · rw [An.countedR_cons] at hb
    split at hb
    · next hn =>
      simp only [Option.some.injEq, Prod.mk.injEq] at hb
      obtain ⟨rfl, rfl⟩ := hb
      have HT := Lib.hid (number_yes q x t w h)
      clear h
      go_enter Tryz.func115, Tryz.ntmps115
      go_wp2_with fail
      refine (HT.out).mono ?_
      rintro e w1 ⟨rfl, hr, hb⟩
      have HT := Lib.hid (take_yes q x.toNat t hn w1 hr)
      go_wp2_with fail
      refine (HT.out).mono ?_
      rintro e w' ⟨A, c, rfl, h1, h2, h3, h4, h5⟩
      have HE : Hid (TookPost w q (t.take x.toNat) (t.drop x.toNat) (.returned (.slice A (t.take x.toNat).length c)) w') := Lib.hid ⟨A, c, rfl, h1, h2, h3, h4, hb.trans h5⟩
      clear h1 h2 h3 h4 h5 hn
      obtain ⟨L, hL⟩ : ∃ L, (t.take x.toNat).length = L := ⟨_, rfl⟩
      rw [hL] at HE ⊢
      clear hL
      go_wp2_with fail
      go_ret
      exact HE.out
    · cases hb

/-- What just leaves. -/
def JustPost (w : World) (q : Nat) (r : List UInt8) (e : Ending) (w' : World) : Prop := e = .returned (.tuple #[]) ∧ RdAt w' q r ∧ But [q] w w'
set_option maxRecDepth 100000 in
set_option maxHeartbeats 1000000 in
theorem just_no (q : Nat) (b p : List UInt8) (A : Option Addr) (n c : Nat) (hn : p.length = n) (w : World) (hp : Lies u8v w A p) (h : RdAt w q b) (hb : An.justR p b = none) :
    Calls Tryz.prog 118 #[.pointer (some ⟨q, 0, none⟩), .slice A n c] w (GavePost w q) := by
  by_cases hlen : n ≤ b.length
  · have hne : b.take n ≠ p := by
      intro e
      unfold An.justR at hb
      rw [hn, if_pos ⟨hlen, e⟩] at hb
      cases hb
    have HT := Lib.hid (take_yes q n b hlen w h)
    have hfar := h.far hp
    have hq := beq_eq_false_iff_ne.2 hne
    have hl : (b.take n).length = n := by rw [List.length_take]; omega
    have HQ := Lib.hid hq
    have HN := Lib.hid hn
    have HL := Lib.hid hl
    have HP := Lib.hid hp
    have HF := Lib.hid hfar
    clear h hb hne hq hn hl hp hfar
    go_enter Tryz.func118, Tryz.ntmps118
    go_wp2_with fail
    refine (HT.out).mono ?_
    rintro e w1 ⟨A1, c1, rfl, h1, h2, h3, h4, h5⟩
    rw [HL.out]
    have HE := Lib.hid (bequal_any A1 A n n c1 c (b.take n) p HL.out HN.out w1 h3 (HP.out.but h5 HF.out))
    rw [HQ.out] at HE
    clear h1 h3 h4
    go_wp2_with fail
    refine (HE.out).mono ?_
    rintro e w2 ⟨rfl, rfl⟩
    go_wp2_with fail
    refine (need_no _).mono ?_
    rintro e w' ⟨he, rfl⟩
    obtain rfl := he
    go_wp2_with fail
    exact ⟨rfl, rfl, h5⟩
  · have HT := Lib.hid (take_no q n b (by omega) w h)
    clear h hb hlen hn hp
    go_enter Tryz.func118, Tryz.ntmps118
    go_wp2_with fail
    refine (HT.out).mono ?_
    rintro e w' ⟨he, hb⟩
    obtain rfl := he
    go_wp2_with fail
    exact ⟨rfl, rfl, hb⟩
set_option maxRecDepth 100000 in
set_option maxHeartbeats 1000000 in
theorem just_yes (q : Nat) (b p r : List UInt8) (A : Option Addr) (n c : Nat) (hn : p.length = n) (w : World) (hp : Lies u8v w A p) (h : RdAt w q b) (hb : An.justR p b = some r) :
    Calls Tryz.prog 118 #[.pointer (some ⟨q, 0, none⟩), .slice A n c] w (JustPost w q r) := by
  unfold An.justR at hb
  split at hb
  · next hc =>
    obtain ⟨hlen, he⟩ := hc
    simp only [Option.some.injEq] at hb
    obtain rfl := hb
    rw [hn] at hlen he
    have HT := Lib.hid (take_yes q n b hlen w h)
    rw [he] at HT
    have HQ : Hid ((p == p) = true) := Lib.hid (by simp)
    have HN := Lib.hid hn
    have HP := Lib.hid hp
    have HF := Lib.hid (h.far hp)
    clear h hn hp hlen he
    go_enter Tryz.func118, Tryz.ntmps118
    go_wp2_with fail
    refine (HT.out).mono ?_
    rintro e w1 ⟨A1, c1, rfl, h1, h2, h3, h4, h5⟩
    rw [HN.out]
    have HE := Lib.hid (bequal_any A1 A n n c1 c p p HN.out HN.out w1 h3 (HP.out.but h5 HF.out))
    rw [HQ.out] at HE
    clear h1 h3
    go_wp2_with fail
    refine (HE.out).mono ?_
    rintro e w2 ⟨rfl, rfl⟩
    go_wp2_with fail
    refine (need_yes _).mono ?_
    rintro e w' ⟨rfl, rfl⟩
    go_wp2_with fail
    go_end0
    exact ⟨rfl, by rw [HN.out]; exact h4, h5⟩
  · cases hb
end Go.Proofs.YtcbkbdoaaaofjaaGreat
