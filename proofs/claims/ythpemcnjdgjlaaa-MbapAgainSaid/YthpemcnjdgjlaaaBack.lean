/-
  The law MbapBack, walked: it answers true, and nothing that was there is touched.
-/
import Derived.Test.YthpemcnjdgjlaaaTells
import Derived.Test.YthpemcnjdgjlaaaMbM
namespace Go.Proofs.Ythpemcnjdgjlaaa
open Go.RowKit

set_option maxRecDepth 100000 in
set_option maxHeartbeats 1000000 in
theorem back_small (t : UInt16) (u : UInt8) (A B : Option Addr) (n m c d : Nat) (p q : List UInt8) (x : Int) (hn : p.length = n) (hm : q.length = m) (hn4 : n ≤ 400) (hm4 : m ≤ 100) (w : World) (ha : Lies u8v w A p) (hb : Lies u8v w B q) :
    Calls Try.prog 4 #[.agg #[u16v t, u8v u, .slice A n c], .slice B m d, .int .i64 x] w fun e w' => e = .returned (.bool true) ∧ Below w.heap.size w w' := by
  have HN := Lib.hid hn
  have HM := Lib.hid hm
  clear hn hm
  have g1 : (n : Int) ≤ 400 := by omega
  have g2 : (m : Int) ≤ 100 := by omega
  go_enter Try.func4, Try.ntmps4
  go_wp2_with fail
  have hbe_ : Below w.heap.size w w := Below.refl _ _
  have hx_ := row_at w #[u16v t, u8v u, .slice A n c] 25 (w.heap.size) rfl
  have hsz0 : (w.alloc (.cells #[u16v t, u8v u, .slice A n c] 25)).heap.size = w.heap.size + 1 := by simp
  have hsb : Below w.heap.size w (w.alloc (.cells #[u16v t, u8v u, .slice A n c] 25)) := (Below.refl _ _).alloc (Nat.le_refl _) _
  have hbe_ := hbe_.trans (hsb.mono (by omega))
  generalize w.alloc (.cells #[u16v t, u8v u, .slice A n c] 25) = w0 at *
  clear hsb
  have hx0 := hx_
  have hbe0 := hbe_
  have hz0 := hbe0.size
  have ha0 := ha.below hbe0 (Nat.le_refl _)
  have hb0 := hb.below hbe0 (Nat.le_refl _)
  clear hbe_ hx_ hsz0 ha hb
  refine (awake_any _).mono ?_
  rintro e w1 ⟨rfl, hs1⟩
  have hbe1 := hbe0.trans (hs1.mono hz0)
  have ha1 := ha0.below hs1 (Nat.le_refl _)
  have hb1 := hb0.below hs1 (Nat.le_refl _)
  have hx1 := row_later hx0 hs1
  have hz1 := hbe1.size
  clear hbe0 hs1 hz0 hx0 ha0 hb0
  obtain ⟨hqx0, hqx1, hqx2⟩ := row_three hx1
  have hltx := row_lt hx1
  go_wp2_with fail
  refine (bytes4_any t u A n c p HN.out (by omega) _ ha1).mono ?_
  rintro e w2 ⟨A2, n2, c2, rfl, hn2, hown2, hs2⟩
  have hp2 := (own_at hown2).2.2.2
  have hbe2 := hbe1.trans (hs2.mono hz1)
  have ha2 := ha1.below hs2 (Nat.le_refl _)
  have hb2 := hb1.below hs2 (Nat.le_refl _)
  have hx2 := row_later hx1 hs2
  have hz2 := hbe2.size
  clear hbe1 hs2 hz1 hx1 ha1 hb1 hqx0 hqx1 hqx2 hltx
  by_cases hg : Mb.codeP p = 0
  · have hlen : n2 = n + 7 := by rw [← hn2, Mb.bytes_length hg, HN.out]
    subst hlen
    have HC := Lib.hid hg
    rw [hg]
    have HN2 := Lib.hid hn2
    have HT := Lib.hid (And.intro (Mb.there t u p q hg) (And.intro (Mb.there_tid t u p q hg) (And.intro (Mb.there_unit t u p q hg) (And.intro (Mb.there_pdu t u p q hg) (Mb.there_size t u p q hg)))))
    have h21 := (own_at hown2).1
    have hng := Mb.codeP_zero hg
    rw [HN.out] at hng
    clear hn2 hg hown2
    go_wp2_with (first | (at_builtin; (refine wpList_append_lies kit8 one8 _ rfl (.tmp 41) (.tmp 42) rfl w2.heap.size _ 0 [] rfl (own_lit u8v w2 #[] _ _ _ 0 [] rfl rfl (Nat.le_refl _) rfl (Nat.zero_le _)) A2 (n + 7) c2 (Mb.bytes t u p) rfl HN2.out (hp2.alloc _) (by omega) (by unfold maxLen; omega) (by simp) ?_; intro A3 c3 wm hown3 _ hs3'; rw [Nat.zero_add] at hown3)) | (at_builtin; go_must (refine wpList_append_lies kit8 one8 _ rfl (.tmp 43) (.tmp 44) rfl w2.heap.size _ (n + 7) ([] ++ Mb.bytes t u p) rfl hown3 B m d q rfl HM.out (hb2.below (((Below.refl _ w2).alloc (Nat.le_refl _) _).trans hs3') (Nat.le_refl _)) (by omega) (by unfold maxLen; omega) (by have := hs3'.size; simp at this; omega) ?_; intro A4 c4 w3 hown4 _ hs4')))
    have hs3 : Below w2.heap.size w2 w3 := (((Below.refl _ w2).alloc (Nat.le_refl _) (.cells #[] 5)).trans hs3').trans hs4'
    obtain ⟨h41, h42, hn4', hy3⟩ := own_at hown4
    rw [List.nil_append] at hy3 hn4'
    have HN4 := Lib.hid hn4'
    clear hs3' hs4' hown3 hown4 hn4'
    have hbe3 := hbe2.trans (hs3.mono hz2)
    have ha3 := ha2.below hs3 (Nat.le_refl _)
    have hb3 := hb2.below hs3 (Nat.le_refl _)
    have hp3 := hp2.below hs3 (Nat.le_refl _)
    have hx3 := row_later hx2 hs3
    have hz3 := hbe3.size
    clear hbe2 hs3 hz2 hx2 ha2 hb2 hp2
    refine (read4_any A4 (n + 7 + m) c4 (Mb.bytes t u p ++ q) HN4.out h41 (by omega) _ hy3).mono ?_
    rintro e w4 ⟨A5, n5, c5, rfl, hn5, _, _, hv4, hs4, _⟩
    rw [HT.out.1, HT.out.2.1, HT.out.2.2.1, HT.out.2.2.2.2, HN.out]
    rw [HT.out.2.2.2.1] at hn5 hv4
    obtain rfl : n5 = n := hn5.symm.trans HN.out
    clear hn5
    have hbe4 := hbe3.trans (hs4.mono hz3)
    have ha4 := ha3.below hs4 (Nat.le_refl _)
    have hb4 := hb3.below hs4 (Nat.le_refl _)
    have hp4 := hp3.below hs4 (Nat.le_refl _)
    have hy4 := hy3.below hs4 (Nat.le_refl _)
    have hx4 := row_later hx3 hs4
    have hz4 := hbe4.size
    clear hbe3 hs4 hz3 hx3 ha3 hb3 hp3 hy3
    clear hy4 hb4
    obtain ⟨hqx0, hqx1, hqx2⟩ := row_three hx4
    have hltx := row_lt hx4
    go_wp2_with fail
    have hf5 := row_at w4 #[u16v t, u8v u, .slice A5 n5 c5] 25 _ rfl
    have hs5 : Below w4.heap.size w4 (w4.alloc (.cells #[u16v t, u8v u, .slice A5 n5 c5] 25)) := (Below.refl _ _).alloc (Nat.le_refl _) _
    obtain ⟨gf, hgf⟩ : ∃ g, w4.heap.size = g := ⟨_, rfl⟩
    have hszf : (w4.alloc (.cells #[u16v t, u8v u, .slice A5 n5 c5] 25)).heap.size = gf + 1 := by simp [hgf]
    generalize w4.alloc (.cells #[u16v t, u8v u, .slice A5 n5 c5] 25) = w5 at *
    have hbe5 := hbe4.trans (hs5.mono hz4)
    have ha5 := ha4.below hs5 (Nat.le_refl _)
    have hp5 := hp4.below hs5 (Nat.le_refl _)
    have hv5 := hv4.below hs5 (Nat.le_refl _)
    have hx5 := row_later hx4 hs5
    have hz5 := hbe5.size
    clear hbe4 hs5 hz4 hx4 ha4 hp4 hv4 hqx0 hqx1 hqx2 hltx
    rw [hgf] at *
    clear hgf
    refine (same4_any t t u u A A5 n5 n5 c c5 p p HN.out HN.out (by unfold maxLen; omega) _ ha5 hv5).mono ?_
    rintro e w6 ⟨rfl, hs6⟩
    rw [Mb.same_self]
    have hbe6 := hbe5.trans (hs6.mono hz5)
    have ha6 := ha5.below hs6 (Nat.le_refl _)
    have hp6 := hp5.below hs6 (Nat.le_refl _)
    have hv6 := hv5.below hs6 (Nat.le_refl _)
    have hx6 := row_later hx5 hs6
    have hf6 := row_later hf5 hs6
    have hz6 := hbe6.size
    clear hbe5 hs6 hz5 hx5 hf5 ha5 hp5 hv5
    clear ha6 hv6 hf6
    obtain ⟨hqx0, hqx1, hqx2⟩ := row_three hx6
    have hltx := row_lt hx6
    by_cases hc0 : x < 0
    · go_wp2_with fail
      go_ret
      exact ⟨rfl, hbe6⟩
    · by_cases hc1 : ((n5 : Int) + 7) ≤ x
      · go_wp2_with fail
        go_ret
        exact ⟨rfl, hbe6⟩
      · obtain ⟨j, rfl⟩ := Int.eq_ofNat_of_zero_le (show 0 ≤ x by omega)
        have hj : j < n5 + 7 := by omega
        have hjc : j ≤ c2 := by omega
        have hjl : ((Mb.bytes t u p).take j).length = j := by rw [List.length_take, HN2.out]; omega
        have HJ := Lib.hid hjl
        have HD := Lib.hid (Mb.cutoff t u p HC.out j (by rw [HN2.out]; exact hj))
        clear hjl
        go_wp2_with fail
        refine (read4_any A2 j c2 _ HJ.out hjc (by omega) _ (hp6.take j)).mono ?_
        rintro e w7 ⟨A7, n7, c7, rfl, hn7, _, _, hv7, hs7, _⟩
        rw [HD.out]
        clear hn7 hv7
        have hbe7 := hbe6.trans (hs7.mono hz6)
        have hp7 := hp6.below hs7 (Nat.le_refl _)
        have hx7 := row_later hx6 hs7
        have hz7 := hbe7.size
        clear hbe6 hs7 hz6 hx6 hp6 hqx0 hqx1 hqx2 hltx
        go_wp2_with fail
        go_ret
        exact ⟨rfl, hbe7.alloc hz7 _⟩
  · have hcn : (((Mb.codeP p : Nat) : Int) != 0) = true := by rw [bne_iff_ne]; omega
    have h0 : n2 = 0 := by rw [← hn2, Mb.bytes_bad t u p hg]; rfl
    subst h0
    clear hg hn2 hown2 hp2
    generalize Mb.codeP p = q0 at hcn
    go_wp2_with fail
    go_ret
    exact ⟨rfl, hbe2⟩

set_option maxRecDepth 100000 in
set_option maxHeartbeats 1000000 in
theorem back_any (t : UInt16) (u : UInt8) (A B : Option Addr) (n m c d : Nat) (p q : List UInt8) (x : Int) (hn : p.length = n) (hm : q.length = m) (w : World) (ha : Lies u8v w A p) (hb : Lies u8v w B q) :
    Calls Try.prog 4 #[.agg #[u16v t, u8v u, .slice A n c], .slice B m d, .int .i64 x] w fun e w' => e = .returned (.bool true) ∧ Below w.heap.size w w' := by
  by_cases hsmall : n ≤ 400 ∧ m ≤ 100
  · exact back_small t u A B n m c d p q x hn hm hsmall.1 hsmall.2 w ha hb
  · have hbig : (n ≤ 400 ∧ 100 < m) ∨ 400 < n := by omega
    clear hsmall hn hm ha hb
    rcases hbig with ⟨h1, h2⟩ | h1
    · have g1 : (n : Int) ≤ 400 := by omega
      have g2 : (100 : Int) < (m : Int) := by omega
      go_enter Try.func4, Try.ntmps4
      go_wp2_with fail
      have hbe_ : Below w.heap.size w w := Below.refl _ _
      have hx_ := row_at w #[u16v t, u8v u, .slice A n c] 25 (w.heap.size) rfl
      have hsz0 : (w.alloc (.cells #[u16v t, u8v u, .slice A n c] 25)).heap.size = w.heap.size + 1 := by simp
      have hsb : Below w.heap.size w (w.alloc (.cells #[u16v t, u8v u, .slice A n c] 25)) := (Below.refl _ _).alloc (Nat.le_refl _) _
      have hbe_ := hbe_.trans (hsb.mono (by omega))
      generalize w.alloc (.cells #[u16v t, u8v u, .slice A n c] 25) = w0 at *
      clear hsb
      have hx0 := hx_
      have hbe0 := hbe_
      have hz0 := hbe0.size
      clear hbe_ hx_ hsz0 
      refine (awake_any _).mono ?_
      rintro e w1 ⟨rfl, hs1⟩
      have hbe1 := hbe0.trans (hs1.mono hz0)
      have hx1 := row_later hx0 hs1
      have hz1 := hbe1.size
      clear hbe0 hs1 hz0 hx0
      obtain ⟨hqx0, hqx1, hqx2⟩ := row_three hx1
      have hltx := row_lt hx1
      go_wp2_with fail
      go_ret
      exact ⟨rfl, hbe1⟩
    · have g1 : (400 : Int) < (n : Int) := by omega
      go_enter Try.func4, Try.ntmps4
      go_wp2_with fail
      have hbe_ : Below w.heap.size w w := Below.refl _ _
      have hx_ := row_at w #[u16v t, u8v u, .slice A n c] 25 (w.heap.size) rfl
      have hsz0 : (w.alloc (.cells #[u16v t, u8v u, .slice A n c] 25)).heap.size = w.heap.size + 1 := by simp
      have hsb : Below w.heap.size w (w.alloc (.cells #[u16v t, u8v u, .slice A n c] 25)) := (Below.refl _ _).alloc (Nat.le_refl _) _
      have hbe_ := hbe_.trans (hsb.mono (by omega))
      generalize w.alloc (.cells #[u16v t, u8v u, .slice A n c] 25) = w0 at *
      clear hsb
      have hx0 := hx_
      have hbe0 := hbe_
      have hz0 := hbe0.size
      clear hbe_ hx_ hsz0 
      refine (awake_any _).mono ?_
      rintro e w1 ⟨rfl, hs1⟩
      have hbe1 := hbe0.trans (hs1.mono hz0)
      have hx1 := row_later hx0 hs1
      have hz1 := hbe1.size
      clear hbe0 hs1 hz0 hx0
      obtain ⟨hqx0, hqx1, hqx2⟩ := row_three hx1
      have hltx := row_lt hx1
      go_wp2_with fail
      go_ret
      exact ⟨rfl, hbe1⟩
end Go.Proofs.Ythpemcnjdgjlaaa
