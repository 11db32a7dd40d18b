/-
  What the landed rtu's three functions leave.
-/
import Derived.Test.YtlabjopmimnifaaFault
namespace Go.Proofs.Ytlabjopmimnifaa
open Go.RowKit

theorem row_at (w : World) (cs : Array Value) (e : TypeId) (g : Nat) (hg : w.heap.size = g) : (w.alloc (.cells cs e)).heap[g]? = some (.cells cs e (0, 0)) := by
  subst hg
  exact heap_alloc_new w _
theorem one_nil (B e : Nat) (w : World) : w.ownsRow B e 1 (.slice Option.none 0 0) 0 (([] : List UInt8).map u8v) := World.ownsRow_nil _ _ _ _

set_option maxRecDepth 100000 in
set_option maxHeartbeats 400000 in
/-- join of two parts, whose slices lie in a row of two. -/
theorem join_two (g : Nat) (A B : Option Addr) (n c m d : Nat) (p q : List UInt8) (hp : p.length = n) (hq : q.length = m) (hm : n + m ≤ 70000) (w : World)
    (hc0 : w.cell? ⟨g, 0, none⟩ = some (.slice A n c)) (hc1 : w.cell? ⟨g, 1, none⟩ = some (.slice B m d)) (h1 : Lies u8v w A p) (h2 : Lies u8v w B q) :
    Calls Try.prog 17 #[.slice (some ⟨g, 0, none⟩) 2 2] w fun e w' => ∃ A' c', e = .returned (.slice A' (n + m) c') ∧ w'.ownsRow w.heap.size 5 1 (.slice A' (n + m) c') (n + m) ((p ++ q).map u8v) ∧ Below w.heap.size w w' := by
  have HP := Lib.hid hp
  have HQ := Lib.hid hq
  clear hp hq
  go_enter Try.func17, Try.ntmps17
  go_wp2_with fail
  refine wp_loop_rounds 3 ?_
  rw [rounds_succ]
  go_wp2_with (at_builtin; go_must (refine wpList_append_lies kit8 one8 _ rfl (.tmp 12) (.tmp 13) rfl w.heap.size _ 0 [] rfl (one_nil _ _ _) A n c p rfl HP.out h1 (by omega) (by unfold maxLen; omega) (by omega) ?_; intro A2 c2 w2 hown2 _ hb2))
  have hc1' := (hb2.cell (p := ⟨g, 1, none⟩) (World.block_lt_of_cell? w _ hc1)).trans hc1
  have h2' := h2.below hb2 (Nat.le_refl _)
  have hz2 := hb2.size
  rw [Nat.zero_add, List.nil_append] at hown2
  rw [rounds_succ]
  go_wp2_with (at_builtin; go_must (refine wpList_append_lies kit8 one8 _ rfl (.tmp 12) (.tmp 13) rfl w.heap.size _ n p rfl hown2 B m d q rfl HQ.out h2' (by omega) (by unfold maxLen; omega) (by omega) ?_; intro A3 c3 w3 hown3 _ hb3))
  rw [rounds_succ]
  go_wp2_with fail
  go_ret
  exact ⟨A3, c3, rfl, hown3, hb2.trans hb3⟩

set_option maxRecDepth 100000 in
set_option maxHeartbeats 400000 in
theorem bytes3_any (u : UInt8) (A : Option Addr) (n c : Nat) (p : List UInt8) (hn : p.length = n) (hm : n ≤ 60000) (w : World) (hb : Lies u8v w A p) :
    Calls Try.prog 7 #[.agg #[u8v u, .slice A n c]] w (BytesPost w u p) := by
  by_cases h0 : n = 0
  · have HC := Lib.hid (Rtu.codeP_none p (by omega))
    subst h0
    clear hn hb
    go_enter Try.func7, Try.ntmps7
    go_wp2_with (first
      | (go_at_call 14; refine (fit_few _ _ _ _ (by decide) _).mono ?_; rintro e w2 ⟨rfl, rfl⟩)
      | (go_at_call 15; refine (number_fault _ 3 (by decide) _).mono ?_; rintro e w3 ⟨rfl, hbe⟩))
    go_ret2
    exact BytesPost.bad _ _ _ _ 3 HC.out (by omega) (((Below.refl _ _).alloc (Nat.le_refl _) _).trans (hbe.mono (by simp)))
  · by_cases h1 : 253 < n
    · have HC := Lib.hid (Rtu.codeP_many p (by omega))
      have h0' : ¬ (n : Int) < 1 := by omega
      have h1' : (253 : Int) < n := by omega
      clear hn hb h0 h1
      go_enter Try.func7, Try.ntmps7
      go_wp2_with (first
        | (go_at_call 14; refine (fit_many _ _ _ _ h0' h1' _).mono ?_; rintro e w2 ⟨rfl, rfl⟩)
        | (go_at_call 15; refine (number_fault _ 4 (by decide) _).mono ?_; rintro e w3 ⟨rfl, hbe⟩))
      go_ret2
      exact BytesPost.bad _ _ _ _ 4 HC.out (by omega) (((Below.refl _ _).alloc (Nat.le_refl _) _).trans (hbe.mono (by simp)))
    · have HC := Lib.hid (Rtu.codeP_good p (by omega) (by omega))
      have h0' : ¬ (n : Int) < 1 := by omega
      have h1' : ¬ (253 : Int) < n := by omega
      have HN := Lib.hid hn
      clear hn h0
      go_enter Try.func7, Try.ntmps7
      go_wp2_with fail
      refine (fit_good _ _ _ _ (by omega) (by omega) _).mono ?_
      rintro e w2 ⟨rfl, rfl⟩
      go_wp2_with fail
      have hsz : w.heap.size ≤ (((w.alloc (.cells #[u8v u, .slice A n c] 24)).alloc (.cells #[u8v u] 5)).alloc (.cells #[.slice (some ⟨w.heap.size + 1, 0, none⟩) 1 1, .slice A n c] 22)).heap.size := by simp; omega
      have hbw : Below w.heap.size w (((w.alloc (.cells #[u8v u, .slice A n c] 24)).alloc (.cells #[u8v u] 5)).alloc (.cells #[.slice (some ⟨w.heap.size + 1, 0, none⟩) 1 1, .slice A n c] 22)) := (((Below.refl _ w).alloc (Nat.le_refl _) _).alloc (by simp) _).alloc (by simp; omega) _
      have hL : Lies u8v (((w.alloc (.cells #[u8v u, .slice A n c] 24)).alloc (.cells #[u8v u] 5)).alloc (.cells #[.slice (some ⟨w.heap.size + 1, 0, none⟩) 1 1, .slice A n c] 22)) (some ⟨w.heap.size + 1, 0, none⟩) [u] := (lies_at (w.alloc (.cells #[u8v u, .slice A n c] 24)) #[u8v u] _ _ [u] rfl (by simp)).alloc _
      have hR := row_two (row_at ((w.alloc (.cells #[u8v u, .slice A n c] 24)).alloc (.cells #[u8v u] 5)) #[.slice (some ⟨w.heap.size + 1, 0, none⟩) 1 1, .slice A n c] 22 (w.heap.size + 1 + 1) (by simp))
      refine (join_two _ (some ⟨w.heap.size + 1, 0, none⟩) A 1 1 n c [u] p rfl HN.out (by omega) _ hR.1 hR.2.1 hL (((hb.alloc _).alloc _).alloc _)).mono ?_
      rintro e w2 ⟨A2, c2, rfl, hown2, hb2⟩
      obtain ⟨_, _, _, hy2⟩ := own_at hown2
      have hbw2 := hbw.trans (hb2.mono hsz)
      have hz2 := hbw2.size
      clear hsz hbw hL hb2 hb hR
      go_wp2_with fail
      refine (put_own A2 (1 + n) c2 ([u] ++ p) (by rw [List.length_append, HN.out]; rfl) (by omega) _ hy2).mono ?_
      rintro e w3 ⟨A3, c3, rfl, hown3, hbe3⟩
      go_wp2_with fail
      go_ret2
      exact BytesPost.good _ _ _ _ A3 (1 + n + 2) c3 HC.out (by have := HN.out; omega) (own_lower hown3 hz2) (hbw2.trans (hbe3.mono hz2))

set_option maxRecDepth 100000 in
set_option maxHeartbeats 400000 in
theorem same3_any (u v : UInt8) (A B : Option Addr) (n m c d : Nat) (p q : List UInt8) (hn : p.length = n) (hm : q.length = m) (_ : n ≤ maxLen) (w : World) (h1 : Lies u8v w A p) (h2 : Lies u8v w B q) :
    Calls Try.prog 13 #[.agg #[u8v u, .slice A n c], .agg #[u8v v, .slice B m d]] w fun e w' => e = .returned (.bool (Rtu.same u p v q)) ∧ Below w.heap.size w w' := by
  have HN := Lib.hid hn
  have HM := Lib.hid hm
  clear hn hm
  by_cases huv : u = v
  · subst huv
    have HS : Hid (Rtu.same u p u q = (p == q)) := Lib.hid (by unfold Rtu.same; simp)
    go_enter Try.func13, Try.ntmps13
    go_wp2_with fail
    refine (bequal_any A B n m c d p q HN.out HM.out _ ((h1.alloc _).alloc _) ((h2.alloc _).alloc _)).mono ?_
    rintro e w2 ⟨rfl, rfl⟩
    go_wp2_with fail
    go_ret
    exact ⟨by rw [HS.out]; rfl, (((Below.refl _ w).alloc (Nat.le_refl _) _).alloc (by simp) _)⟩
  · have HS : Hid (Rtu.same u p v q = false) := Lib.hid (by unfold Rtu.same; rw [beq_eq_false_iff_ne.2 huv]; rfl)
    have hne : ((u.toNat : Int) == (v.toNat : Int)) = false := by
      rw [beq_eq_false_iff_ne]
      intro e
      exact huv (UInt8.toNat_inj.1 (by exact_mod_cast e))
    unfold u8v
    clear huv
    go_enter Try.func13, Try.ntmps13
    go_wp2_with fail
    go_ret
    exact ⟨by rw [HS.out]; rfl, ((Below.refl _ w).alloc (Nat.le_refl _) _).alloc (by simp) _⟩

/-- What the landed read leaves. -/
def ReadPostE (w : World) (b : List UInt8) (e : Ending) (w' : World) : Prop :=
  ∃ A n c v, e = .returned (.tuple #[.agg #[u8v (Rtu.unit b), .slice A n c], v]) ∧ ((Rtu.codeB b = 0 ∧ v = .nilIface) ∨ ∃ s j, v = faultV s j ∧ (j = 3 ∨ j = 4 ∨ j = 6) ∧ ((Rtu.codeB b : Nat) : Int) = j) ∧ (Rtu.pdu b).length = n ∧ n ≤ c ∧ c ≤ maxLen ∧ Lies u8v w' A (Rtu.pdu b) ∧ Below w.heap.size w w' ∧
    ∀ b1 o1 m, A = some ⟨b1, o1, m⟩ → 0 < n → ∃ o2 x, o1 = o2 + 1 ∧ Lies u8v w' (some ⟨b1, o2, Option.none⟩) [x]
theorem ReadPostE.bad (w w' : World) (b : List UInt8) (s : ByteArray) (k : Nat) (h : Rtu.codeB b = k) (hk : (k : Int) = 3 ∨ (k : Int) = 4 ∨ (k : Int) = 6) (hb : Below w.heap.size w w') : ReadPostE w b (.returned (.tuple #[.agg #[.int .u8 0, .slice Option.none 0 0], faultV s (k : Int)])) w' :=
  have hc := Rtu.pdu_bad b (by rw [h]; omega)
  have hu := Rtu.unit_bad b (by rw [h]; omega)
  ⟨Option.none, 0, 0, _, by rw [hu]; rfl, .inr ⟨s, k, rfl, hk, by rw [h]⟩, by rw [hc]; rfl, Nat.le_refl _, Nat.zero_le _, by rw [hc]; exact Lies.nil _ _, hb, by rintro _ _ _ h; cases h⟩
theorem ReadPostE.good (w w' : World) (b : List UInt8) (x : UInt8) (b1 o1 : Nat) (n c : Nat) (h : Rtu.codeB b = 0) (hx : b.getD 0 0 = x) (hn : b.length - 3 = n) (hc : n ≤ c) (hm : c ≤ maxLen) (hy : Lies u8v w' (some ⟨b1, o1 + 1, Option.none⟩) ((Crc.front b).drop 1)) (h1 : Lies u8v w' (some ⟨b1, o1, Option.none⟩) [x]) (hb : Below w.heap.size w w') :
    ReadPostE w b (.returned (.tuple #[.agg #[u8v x, .slice (some ⟨b1, o1 + 1, Option.none⟩) n c], .nilIface])) w' :=
  have hp : Rtu.pdu b = (Crc.front b).drop 1 := by unfold Rtu.pdu; rw [if_pos h]
  have hu : Rtu.unit b = x := by unfold Rtu.unit; rw [if_pos h]; exact hx
  ⟨_, n, c, _, by rw [hu], .inl ⟨h, rfl⟩, by rw [hp, List.length_drop, Crc.front_length]; omega, hc, hm, by rw [hp]; exact hy, hb, by rintro _ _ _ h _; cases h; exact ⟨o1, x, rfl, h1⟩⟩

set_option maxRecDepth 100000 in
set_option maxHeartbeats 400000 in
theorem read3e_any (A : Option Addr) (n c : Nat) (b : List UInt8) (hn : b.length = n) (hnc : n ≤ c) (hm : n ≤ 60000) (w : World) (hb : Lies u8v w A b) :
    Calls Try.prog 19 #[.slice A n c] w (ReadPostE w b) := by
  by_cases h0 : n < 4
  · have HC := Lib.hid (Rtu.codeB_short b (by omega))
    have h0' : (n : Int) < 4 := by omega
    clear hn hb
    go_enter Try.func19, Try.ntmps19
    go_wp2_with fail
    refine (fit_few _ _ _ _ (by omega) _).mono ?_
    rintro e w2 ⟨rfl, rfl⟩
    go_wp2_with fail
    refine bodyPost_ret_by (v := .tuple #[.agg #[.int .u8 0, .slice none 0 0], faultV ⟨#[102, 114, 97, 109, 101]⟩ 3]) (by simp [results, Try.f19, go_sem]) rfl ?_
    exact ReadPostE.bad _ _ _ _ 3 HC.out (by omega) ((Below.refl _ _).alloc (Nat.le_refl _) _)
  · by_cases h1 : 256 < n
    · have HC := Lib.hid (Rtu.codeB_many b (by omega))
      have h0' : ¬ (n : Int) < 4 := by omega
      have h1' : (256 : Int) < n := by omega
      clear hn hb
      go_enter Try.func19, Try.ntmps19
      go_wp2_with fail
      refine (fit_many _ _ _ _ (by omega) (by omega) _).mono ?_
      rintro e w2 ⟨rfl, rfl⟩
      go_wp2_with fail
      refine bodyPost_ret_by (v := .tuple #[.agg #[.int .u8 0, .slice none 0 0], faultV ⟨#[102, 114, 97, 109, 101]⟩ 4]) (by simp [results, Try.f19, go_sem]) rfl ?_
      exact ReadPostE.bad _ _ _ _ 4 HC.out (by omega) ((Below.refl _ _).alloc (Nat.le_refl _) _)
    · have HN := Lib.hid hn
      have h0' : ¬ (n : Int) < 4 := by omega
      have h1' : ¬ (256 : Int) < n := by omega
      clear hn
      cases hp : Crc.isPut b with
      | false =>
        have HC := Lib.hid (Rtu.codeB_sum b (by have := HN.out; omega) (by have := HN.out; omega) hp)
        have HP := Lib.hid hp
        clear hp
        go_enter Try.func19, Try.ntmps19
        go_wp2_with fail
        refine (fit_good _ _ _ _ (by omega) (by omega) _).mono ?_
        rintro e w1 ⟨rfl, rfl⟩
        go_wp2_with fail
        refine (cut_any A n c b HN.out hnc (by omega) _ (hb.alloc _)).mono ?_
        rintro e w2 ⟨A2, n2, c2, rfl, hn2, hnc2, hc2, hy2, hbe2⟩
        rw [HP.out]
        have hbw2 := ((Below.refl _ w).alloc (Nat.le_refl _) _).trans (hbe2.mono (by simp))
        have hrow : w2.heap[w.heap.size]? = some (.cells #[.int .u8 0, .slice none 0 0] 24 (0, 0)) := (hbe2.block _ (by simp)).trans (heap_alloc_new w _)
        obtain ⟨hr0, hr1, hf0, hf1⟩ := row_two hrow
        clear hrow
        go_wp2
        refine bodyPost_ret_by (v := .tuple #[.agg #[.int .u8 0, .slice none 0 0], faultV ⟨#[115, 117, 109]⟩ 6]) (by simp [results, Try.f19, go_sem, hr0, hr1]) rfl ?_
        exact ReadPostE.bad _ _ _ _ 6 HC.out (by omega) ((hbw2.setCell (p := ⟨w.heap.size, 0, none⟩) (Nat.le_refl _) _).setCell (p := ⟨w.heap.size, 1, none⟩) (Nat.le_refl _) _)
      | true =>
        have HC := Lib.hid (Rtu.codeB_good b (by have := HN.out; omega) (by have := HN.out; omega) hp)
        have HK : Hid (Crc.cut b = Crc.front b) := Lib.hid (by unfold Crc.cut; rw [hp, if_pos rfl])
        have HP := Lib.hid hp
        clear hp
        have hmx : Try.prog.follows .mixedOrders = true := by kernel_rfl
        go_enter Try.func19, Try.ntmps19
        go_wp2_with fail
        refine (fit_good _ _ _ _ (by omega) (by omega) _).mono ?_
        rintro e w1 ⟨rfl, rfl⟩
        go_wp2_with fail
        refine (cut_any A n c b HN.out hnc (by omega) _ (hb.alloc _)).mono ?_
        rintro e w2 ⟨A2, n2, c2, rfl, hn2, hnc2, hc2, hy2, hbe2⟩
        rw [HP.out]
        rw [HK.out] at hn2 hy2
        have hbw2 := ((Below.refl _ w).alloc (Nat.le_refl _) _).trans (hbe2.mono (by simp))
        have hrow : w2.heap[w.heap.size]? = some (.cells #[.int .u8 0, .slice none 0 0] 24 (0, 0)) := (hbe2.block _ (by simp)).trans (heap_alloc_new w _)
        obtain ⟨hr0, hr1, hf0, hf1⟩ := row_two hrow
        obtain ⟨m, rfl⟩ : ∃ m, n2 = m + 1 := ⟨n2 - 1, by rw [Crc.front_length] at hn2; have := HN.out; omega⟩
        obtain ⟨b1, o1, rfl, hb1, hc1⟩ := hy2.at_ (by omega)
        obtain ⟨x, hx1, hx⟩ : ∃ x, (Crc.front b)[0]? = some x ∧ w2.cell? ⟨b1, o1, none⟩ = some (.int .u8 (x.toNat : Int)) := ⟨_, List.getElem?_eq_getElem (by omega), hc1 0 (by omega)⟩
        have HX : Hid (b.getD 0 0 = x) := Lib.hid (by
          unfold Crc.front at hx1
          rw [List.getElem?_take, if_pos (by have := HN.out; omega)] at hx1
          rw [List.getD_eq_getElem?_getD, hx1]; rfl)
        have HD := Lib.hid (hy2.drop 1)
        have H1 : Hid (Lies u8v w2 (some ⟨b1, o1, none⟩) [x]) := Lib.hid (Lies.of_row fun j hj => by
          obtain rfl : j = 0 := by simpa using hj
          exact hx)
        have HN2 := Lib.hid hn2
        have hm1 : 1 ≤ m := by rw [Crc.front_length] at hn2; have := HN.out; omega
        have hm2 : m ≤ 256 := by rw [Crc.front_length] at hn2; have := HN.out; omega
        have hc21 : ¬ c2 = 1 := by omega
        have hne : b1 ≠ w.heap.size := by
          rintro rfl
          have h0 := hc1 0 (by omega)
          have h1 := hc1 1 (by omega)
          rw [cell_of_row w2 _ _ _ _ _ hrow] at h0 h1
          rcases o1 with _ | _ | o
          · simp at h1
          · simp at h0
          · simp at h0
        clear hc1 hn2 hx1 hrow
        go_wp2
        go_region
        all_goals go_wp2
        all_goals
          refine bodyPost_ret_by (v := .tuple #[.agg #[.int .u8 (x.toNat : Int), .slice (some ⟨b1, o1 + 1, none⟩) m (c2 - 1)], .nilIface]) (by simp [results, Try.f19, go_sem, hr0, hr1]) rfl ?_
          refine ReadPostE.good _ _ _ x b1 o1 m (c2 - 1) HC.out HX.out (by have := HN2.out; rw [Crc.front_length] at this; omega) (by omega) (by omega) ?_ ?_ (drewN_below ((hbw2.setCell (p := ⟨w.heap.size, 0, none⟩) (Nat.le_refl _) _).setCell (p := ⟨w.heap.size, 1, none⟩) (Nat.le_refl _) _) 1)
          · exact (HD.out.setCell_far (g := w.heap.size) hne 0 _).setCell_far hne 1 _
          · exact (H1.out.setCell_far (g := w.heap.size) hne 0 _).setCell_far hne 1 _

/-- Stores into a row of two that lies there, and what is made behind it. -/
theorem two_stored {w : World} {g : Nat} {a b : Value} {t : TypeId} (h : w.heap[g]? = some (.cells #[a, b] t (0, 0))) (x y : Value) :
    ((w.setCell ⟨g, 0, none⟩ x).setCell ⟨g, 1, none⟩ y).heap[g]? = some (.cells #[x, y] t (0, 0)) := by
  simp [World.setCell, Array.getElem?_modify, h]
theorem two_later {w : World} {g : Nat} {a b : Value} {t : TypeId} (h : w.heap[g]? = some (.cells #[a, b] t (0, 0))) (O : Obj) : (w.alloc O).heap[g]? = some (.cells #[a, b] t (0, 0)) := by
  have hlt : g < w.heap.size := by
    rcases Nat.lt_or_ge g w.heap.size with h' | h'
    · exact h'
    · rw [Array.getElem?_eq_none h'] at h; cases h
  rw [← h]
  show (w.heap.push O)[g]? = w.heap[g]?
  rw [Array.getElem?_push, if_neg (by omega)]

set_option maxRecDepth 100000 in
set_option maxHeartbeats 1000000 in
theorem read3_any (A : Option Addr) (n c : Nat) (b : List UInt8) (hn : b.length = n) (hnc : n ≤ c) (hm : n ≤ 60000) (w : World) (hb : Lies u8v w A b) :
    Calls Try.prog 9 #[.slice A n c] w (ReadPost w b) := by
  have HN := Lib.hid hn
  clear hn
  have hmx : Try.prog.follows .mixedOrders = true := by kernel_rfl
  go_enter Try.func9, Try.ntmps9
  go_wp2_with fail
  refine (read3e_any A n c b HN.out hnc hm _ (hb.alloc _)).mono ?_
  rintro e w2 ⟨A2, n2, c2, v, rfl, hv, hn2, hnc2, hc2, hy2, hbe2, hoff⟩
  have HN2 := Lib.hid hn2
  have hbw2 := ((Below.refl _ w).alloc (Nat.le_refl _) _).trans (hbe2.mono (by simp))
  have hrow : w2.heap[w.heap.size]? = some (.cells #[.int .u8 0, .slice none 0 0] 24 (0, 0)) := (hbe2.block _ (by simp)).trans (heap_alloc_new w _)
  obtain ⟨hr0, hr1, hf0, hf1⟩ := row_two hrow
  have hz2 := hbw2.size
  have hlt : w.heap.size < w2.heap.size := by have := hbe2.size; simp at this; omega
  have hne : w2.heap.size ≠ w.heap.size := by omega
  have HF : Hid (∀ x y : Value, Lies u8v ((w2.setCell ⟨w.heap.size, 0, none⟩ x).setCell ⟨w.heap.size, 1, none⟩ y) A2 (Rtu.pdu b)) := Lib.hid (by
    intro x y
    rcases Nat.eq_zero_or_pos n2 with h0 | h0
    · have : Rtu.pdu b = [] := List.eq_nil_of_length_eq_zero (by omega)
      rw [this]
      exact Lies.nil _ _
    · obtain ⟨b1, o1, rfl, _, hc1⟩ := hy2.at_ (by omega)
      obtain ⟨o2, z, rfl, hz⟩ := hoff b1 o1 none rfl h0
      have hz0 := hz.row 0 (by simp)
      have hfar : b1 ≠ w.heap.size := by
        rintro rfl
        have h1 := hc1 0 (by omega)
        rw [cell_of_row w2 _ _ _ _ _ hrow] at h1 hz0
        rcases o2 with _ | o
        · simp at h1
        · simp at h1
      exact (hy2.setCell_far hfar _ _).setCell_far hfar _ _)
  clear hn2 hbe2 hb hy2 hoff
  rcases hv with ⟨hc0, rfl⟩ | ⟨s, j, rfl, hj, hcj⟩
  · have HC := Lib.hid hc0
    obtain ⟨k0, k1, _, _⟩ := row_two (two_later (two_stored hrow (.int .u8 (Rtu.unit b).toNat) (.slice A2 n2 c2)) (.cells #[.int .u8 (Rtu.unit b).toNat, .slice A2 n2 c2] 24))
    clear hc0 hrow
    go_wp2_with fail
    go_region_with (go_at_call 15; refine (number_nil _).mono ?_; rintro e w3 ⟨rfl, rfl⟩)
    all_goals go_wp2
    all_goals
      refine bodyPost_ret_by (v := .tuple #[.agg #[u8v (Rtu.unit b), .slice A2 n2 c2], .int .i64 0]) (by simp [results, Try.f9, go_sem, k0, k1]) rfl ?_
      exact ⟨A2, n2, c2, by rw [HC.out]; rfl, HN2.out, hnc2, hc2, (HF.out _ _).alloc _, drewN_below (((hbw2.setCell (p := ⟨w.heap.size, 0, none⟩) (Nat.le_refl _) _).setCell (p := ⟨w.heap.size, 1, none⟩) (Nat.le_refl _) _).alloc (by simp; omega) _) 1⟩
  · have HC := Lib.hid hcj
    have HF2 : Hid (∀ w3 : World, Below (w2.alloc (.cells #[.int .u8 (Rtu.unit b).toNat, .slice A2 n2 c2] 24)).drew.heap.size (w2.alloc (.cells #[.int .u8 (Rtu.unit b).toNat, .slice A2 n2 c2] 24)).drew w3 → w3.heap[w.heap.size]? = some (.cells #[.int .u8 0, .slice none 0 0] 24 (0, 0)) ∧ w3.heap[w2.heap.size]? = some (.cells #[.int .u8 (Rtu.unit b).toNat, .slice A2 n2 c2] 24 (0, 0)) ∧ Below w.heap.size w w3 ∧ ∀ x y : Value, Lies u8v ((w3.setCell ⟨w.heap.size, 0, none⟩ x).setCell ⟨w.heap.size, 1, none⟩ y) A2 (Rtu.pdu b)) := Lib.hid (by
      intro w3 h3
      have hp : Rtu.pdu b = [] := Rtu.pdu_bad b (by omega)
      have h4 : Below w2.heap.size w2 w3 := (drewN_below ((Below.refl w2.heap.size w2).alloc (Nat.le_refl _) (.cells #[.int .u8 (Rtu.unit b).toNat, .slice A2 n2 c2] 24)) 1).trans (h3.mono (by simp))
      exact ⟨(h4.block _ hlt).trans hrow, (h3.block _ (by simp)).trans (row_at w2 #[.int .u8 (Rtu.unit b).toNat, .slice A2 n2 c2] 24 w2.heap.size rfl), hbw2.trans (h4.mono hz2), fun x y => by rw [hp]; exact Lies.nil _ _⟩)
    clear hcj hrow hr0 hr1 hf0 hf1 HF hbw2
    go_wp2_with fail
    go_region_with (go_at_call 15; refine (number_fault s j hj _).mono ?_; rintro e w3 ⟨rfl, hb3⟩; obtain ⟨hq1, hq2, hbw3, hy3⟩ := HF2.out w3 hb3; obtain ⟨hr0, hr1, hf0, hf1⟩ := row_two hq1; obtain ⟨hx0, hx1, _, _⟩ := row_two hq2; clear hq2)
    all_goals go_wp2
    all_goals
      refine bodyPost_ret_by (v := .tuple #[.agg #[u8v (Rtu.unit b), .slice A2 n2 c2], .int .i64 j]) (by simp [results, Try.f9, go_sem, hr0, hr1]) rfl ?_
      exact ⟨A2, n2, c2, by rw [HC.out], HN2.out, hnc2, hc2, hy3 _ _, (hbw3.setCell (p := ⟨w.heap.size, 0, none⟩) (Nat.le_refl _) _).setCell (p := ⟨w.heap.size, 1, none⟩) (Nat.le_refl _) _⟩
end Go.Proofs.Ytlabjopmimnifaa
