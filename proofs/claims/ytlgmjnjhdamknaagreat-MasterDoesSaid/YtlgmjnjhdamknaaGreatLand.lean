
/- A part of the proof of the law MasterDoes. -/
import Derived.Test.YtlgmjnjhdamknaaGreatMem
import Derived.Test.YtlgmjnjhdamknaaGreatRow
import Derived.Test.YtlgmjnjhdamknaaGreatBeq
import Derived.Test.YtlgmjnjhdamknaaGreatCm8
import Derived.Test.YtlgmjnjhdamknaaGreatLa
namespace Go.Proofs.YtlgmjnjhdamknaaGreat
open Go.RowKit

theorem one_nil (B e : Nat) (w : World) : w.ownsRow B e 1 (.slice Option.none 0 0) 0 (([] : List UInt8).map u8v) := World.ownsRow_nil _ _ _ _

set_option maxRecDepth 100000 in
set_option maxHeartbeats 400000 in
theorem join_two (g : Nat) (A B : Option Addr) (n c m d : Nat) (p q : List UInt8) (hp : p.length = n) (hq : q.length = m) (hm : n + m ≤ 70000) (w : World)
    (hc0 : w.cell? ⟨g, 0, none⟩ = some (.slice A n c)) (hc1 : w.cell? ⟨g, 1, none⟩ = some (.slice B m d)) (h1 : Lies u8v w A p) (h2 : Lies u8v w B q) :
    Calls Tryz.prog 47 #[.slice (some ⟨g, 0, none⟩) 2 2] w fun e w' => ∃ A' c', e = .returned (.slice A' (n + m) c') ∧ w'.ownsRow w.heap.size 5 1 (.slice A' (n + m) c') (n + m) ((p ++ q).map u8v) ∧ Below w.heap.size w w' := by
  have HP := qh hp
  have HQ := qh hq
  clear hp hq
  go_enter Tryz.func47, Tryz.ntmps47
  go_wp2_with fail
  refine wp_loop_rounds 3 ?_
  rw [rounds_succ]
  go_wp2_with (at_builtin; go_must (refine wpList_append_lies kit8 one8 _ rfl (.tmp 12) (.tmp 13) rfl w.heap.size _ 0 [] rfl (one_nil _ _ _) A n c p rfl HP.out h1 (by omega) (by unfold maxLen; omega) (by omega) ?_; intro A2 c2 w2 hown2 _ hb2))
  have hc1' := (hb2.cell (p := ⟨g, 1, none⟩) (World.block_lt_of_cell? w _ hc1)).trans hc1
  have h2' := h2.below hb2 (zq _)
  have hz2 := hb2.size
  rw [Nat.zero_add, List.nil_append] at hown2
  rw [rounds_succ]
  go_wp2_with (at_builtin; go_must (refine wpList_append_lies kit8 one8 _ rfl (.tmp 12) (.tmp 13) rfl w.heap.size _ n p rfl hown2 B m d q rfl HQ.out h2' (by omega) (by unfold maxLen; omega) (by omega) ?_; intro A3 c3 w3 hown3 _ hb3))
  rw [rounds_succ]
  go_wp2_with fail
  go_ret
  exact ⟨A3, c3, rfl, hown3, hb2.trans hb3⟩

set_option maxRecDepth 100000 in
set_option maxHeartbeats 400000 in
theorem bytes3_any (u : UInt8) (A : Option Addr) (n c : Nat) (p : List UInt8) (hn : p.length = n) (hm : n ≤ 60000) (w : World) (hb : Lies u8v w A p) :
    Calls Tryz.prog 23 #[.agg #[u8v u, .slice A n c]] w (BytesPost3 w u p) := by
  by_cases h0 : n = 0
  · have HC := qh (Rtu.codeP_none p (by omega))
    subst h0
    clear hn hb
    go_enter Tryz.func23, Tryz.ntmps23
    go_wp2_with (first
      | (go_at_call 44; refine (fit_few _ _ _ _ (by decide) _).mono ?_; rintro e w2 ⟨rfl, rfl⟩)
      | (go_at_call 45; refine (number_fault _ 3 (by decide) _).mono ?_; rintro e w3 ⟨rfl, hbe⟩))
    go_ret2
    exact BytesPost3.bad _ _ _ _ 3 HC.out (by omega) (((Below.refl _ _).alloc (zq _) _).trans (hbe.mono (by simp)))
  · by_cases h1 : 253 < n
    · have HC := qh (Rtu.codeP_many p (by omega))
      have h0' : ¬ (n : Int) < 1 := by omega
      have h1' : (253 : Int) < n := by omega
      clear hn hb h0 h1
      go_enter Tryz.func23, Tryz.ntmps23
      go_wp2_with (first
        | (go_at_call 44; refine (fit_many _ _ _ _ h0' h1' _).mono ?_; rintro e w2 ⟨rfl, rfl⟩)
        | (go_at_call 45; refine (number_fault _ 4 (by decide) _).mono ?_; rintro e w3 ⟨rfl, hbe⟩))
      go_ret2
      exact BytesPost3.bad _ _ _ _ 4 HC.out (by omega) (((Below.refl _ _).alloc (zq _) _).trans (hbe.mono (by simp)))
    · have HC := qh (Rtu.codeP_good p (by omega) (by omega))
      have h0' : ¬ (n : Int) < 1 := by omega
      have h1' : ¬ (253 : Int) < n := by omega
      have HN := qh hn
      clear hn h0
      go_enter Tryz.func23, Tryz.ntmps23
      go_wp2_with fail
      refine (fit_good _ _ _ _ (by omega) (by omega) _).mono ?_
      rintro e w2 ⟨rfl, rfl⟩
      go_wp2_with fail
      have hsz : w.heap.size ≤ (((w.alloc (.cells #[u8v u, .slice A n c] 69)).alloc (.cells #[u8v u] 5)).alloc (.cells #[.slice (some ⟨w.heap.size + 1, 0, none⟩) 1 1, .slice A n c] 41)).heap.size := by simp; omega
      have hbw : Below w.heap.size w (((w.alloc (.cells #[u8v u, .slice A n c] 69)).alloc (.cells #[u8v u] 5)).alloc (.cells #[.slice (some ⟨w.heap.size + 1, 0, none⟩) 1 1, .slice A n c] 41)) := (((Below.refl _ w).alloc (zq _) _).alloc (by simp) _).alloc (by simp; omega) _
      have hL : Lies u8v (((w.alloc (.cells #[u8v u, .slice A n c] 69)).alloc (.cells #[u8v u] 5)).alloc (.cells #[.slice (some ⟨w.heap.size + 1, 0, none⟩) 1 1, .slice A n c] 41)) (some ⟨w.heap.size + 1, 0, none⟩) [u] := (lies_at (w.alloc (.cells #[u8v u, .slice A n c] 69)) #[u8v u] _ _ [u] rfl (by simp)).alloc _
      have hR := row_two (row_at ((w.alloc (.cells #[u8v u, .slice A n c] 69)).alloc (.cells #[u8v u] 5)) #[.slice (some ⟨w.heap.size + 1, 0, none⟩) 1 1, .slice A n c] 41 (w.heap.size + 1 + 1) (by simp))
      refine (join_two _ (some ⟨w.heap.size + 1, 0, none⟩) A 1 1 n c [u] p rfl HN.out (by omega) _ hR.1 hR.2.1 hL (((hb.alloc _).alloc _).alloc _)).mono ?_
      rintro e w2 ⟨A2, c2, rfl, hown2, hb2⟩
      obtain ⟨_, _, _, hy2⟩ := own_at hown2
      have hbw2 := hbw.trans (hb2.mono hsz)
      have hz2 := hbw2.size
      clear hsz hbw hL hb2 hb hR
      go_wp2_with fail
      refine (put_own A2 (1 + n) c2 ([u] ++ p) (by rw [List.length_append, HN.out]; rfl) (by omega) _ hy2).mono ?_
      rintro e w3 ⟨A3, c3, rfl, hown3, hbe3⟩
      go_wp2_with fail
      go_ret2
      exact BytesPost3.good _ _ _ _ A3 (1 + n + 2) c3 HC.out (by have := HN.out; omega) (own_lower hown3 hz2) (hbw2.trans (hbe3.mono hz2))

def ReadPost3E (w : World) (b : List UInt8) (e : Ending) (w' : World) : Prop :=
  ∃ A n c v, e = .returned (.tuple #[.agg #[u8v (Rtu.unit b), .slice A n c], v]) ∧ ((Rtu.codeB b = 0 ∧ v = .nilIface) ∨ ∃ s j, v = faultV s j ∧ (j = 3 ∨ j = 4 ∨ j = 6) ∧ ((Rtu.codeB b : Nat) : Int) = j) ∧ (Rtu.pdu b).length = n ∧ n ≤ c ∧ c ≤ maxLen ∧ Lies u8v w' A (Rtu.pdu b) ∧ Below w.heap.size w w' ∧
    ∀ b1 o1 m, A = some ⟨b1, o1, m⟩ → 0 < n → ∃ o2 x, o1 = o2 + 1 ∧ Lies u8v w' (some ⟨b1, o2, Option.none⟩) [x]
theorem ReadPost3E.bad (w w' : World) (b : List UInt8) (s : ByteArray) (k : Nat) (h : Rtu.codeB b = k) (hk : (k : Int) = 3 ∨ (k : Int) = 4 ∨ (k : Int) = 6) (hb : Below w.heap.size w w') : ReadPost3E w b (.returned (.tuple #[.agg #[.int .u8 0, .slice Option.none 0 0], faultV s (k : Int)])) w' :=
  have hc := Rtu.pdu_bad b (by rw [h]; omega)
  have hu := Rtu.unit_bad b (by rw [h]; omega)
  ⟨Option.none, 0, 0, _, by rw [hu]; rfl, .inr ⟨s, k, rfl, hk, by rw [h]⟩, by rw [hc]; rfl, zq _, Nat.zero_le _, by rw [hc]; exact Lies.nil _ _, hb, by rintro _ _ _ h; cases h⟩
theorem ReadPost3E.good (w w' : World) (b : List UInt8) (x : UInt8) (b1 o1 : Nat) (n c : Nat) (h : Rtu.codeB b = 0) (hx : b.getD 0 0 = x) (hn : b.length - 3 = n) (hc : n ≤ c) (hm : c ≤ maxLen) (hy : Lies u8v w' (some ⟨b1, o1 + 1, Option.none⟩) ((Crc.front b).drop 1)) (h1 : Lies u8v w' (some ⟨b1, o1, Option.none⟩) [x]) (hb : Below w.heap.size w w') :
    ReadPost3E w b (.returned (.tuple #[.agg #[u8v x, .slice (some ⟨b1, o1 + 1, Option.none⟩) n c], .nilIface])) w' :=
  have hp : Rtu.pdu b = (Crc.front b).drop 1 := by unfold Rtu.pdu; rw [if_pos h]
  have hu : Rtu.unit b = x := by unfold Rtu.unit; rw [if_pos h]; exact hx
  ⟨_, n, c, _, by rw [hu], .inl ⟨h, rfl⟩, by rw [hp, List.length_drop, Crc.front_length]; omega, hc, hm, by rw [hp]; exact hy, hb, by rintro _ _ _ h _; cases h; exact ⟨o1, x, rfl, h1⟩⟩

set_option maxRecDepth 100000 in
set_option maxHeartbeats 400000 in
theorem read3e_any (A : Option Addr) (n c : Nat) (b : List UInt8) (hn : b.length = n) (hnc : n ≤ c) (hm : n ≤ 60000) (w : World) (hb : Lies u8v w A b) :
    Calls Tryz.prog 175 #[.slice A n c] w (ReadPost3E w b) := by
  by_cases h0 : n < 4
  · have HC := qh (Rtu.codeB_short b (by omega))
    have h0' : (n : Int) < 4 := by omega
    clear hn hb
    go_enter Tryz.func175, Tryz.ntmps175
    go_wp2_with fail
    refine (fit_few _ _ _ _ (by omega) _).mono ?_
    rintro e w2 ⟨rfl, rfl⟩
    go_wp2_with fail
    refine bodyPost_ret_by (v := .tuple #[.agg #[.int .u8 0, .slice none 0 0], faultV ⟨#[102, 114, 97, 109, 101]⟩ 3]) (by simp [results, Tryz.f175, go_sem]) rfl ?_
    exact ReadPost3E.bad _ _ _ _ 3 HC.out (by omega) ((Below.refl _ _).alloc (zq _) _)
  · by_cases h1 : 256 < n
    · have HC := qh (Rtu.codeB_many b (by omega))
      have h0' : ¬ (n : Int) < 4 := by omega
      have h1' : (256 : Int) < n := by omega
      clear hn hb
      go_enter Tryz.func175, Tryz.ntmps175
      go_wp2_with fail
      refine (fit_many _ _ _ _ (by omega) (by omega) _).mono ?_
      rintro e w2 ⟨rfl, rfl⟩
      go_wp2_with fail
      refine bodyPost_ret_by (v := .tuple #[.agg #[.int .u8 0, .slice none 0 0], faultV ⟨#[102, 114, 97, 109, 101]⟩ 4]) (by simp [results, Tryz.f175, go_sem]) rfl ?_
      exact ReadPost3E.bad _ _ _ _ 4 HC.out (by omega) ((Below.refl _ _).alloc (zq _) _)
    · have HN := qh hn
      have h0' : ¬ (n : Int) < 4 := by omega
      have h1' : ¬ (256 : Int) < n := by omega
      clear hn
      cases hp : Crc.isPut b with
      | false =>
        have HC := qh (Rtu.codeB_sum b (by have := HN.out; omega) (by have := HN.out; omega) hp)
        have HP := qh hp
        clear hp
        go_enter Tryz.func175, Tryz.ntmps175
        go_wp2_with fail
        refine (fit_good _ _ _ _ (by omega) (by omega) _).mono ?_
        rintro e w1 ⟨rfl, rfl⟩
        go_wp2_with fail
        refine (cut_any A n c b HN.out hnc (by omega) _ (hb.alloc _)).mono ?_
        rintro e w2 ⟨A2, n2, c2, rfl, hn2, hnc2, hc2, hy2, hbe2⟩
        rw [HP.out]
        have hbw2 := ((Below.refl _ w).alloc (zq _) _).trans (hbe2.mono (by simp))
        have hrow : w2.heap[w.heap.size]? = some (.cells #[.int .u8 0, .slice none 0 0] 69 (0, 0)) := (hbe2.block _ (by simp)).trans (heap_alloc_new w _)
        obtain ⟨hr0, hr1, hf0, hf1⟩ := row_two hrow
        clear hrow
        go_wp2
        refine bodyPost_ret_by (v := .tuple #[.agg #[.int .u8 0, .slice none 0 0], faultV ⟨#[115, 117, 109]⟩ 6]) (by simp [results, Tryz.f175, go_sem, hr0, hr1]) rfl ?_
        exact ReadPost3E.bad _ _ _ _ 6 HC.out (by omega) ((hbw2.setCell (p := ⟨w.heap.size, 0, none⟩) (zq _) _).setCell (p := ⟨w.heap.size, 1, none⟩) (zq _) _)
      | true =>
        have HC := qh (Rtu.codeB_good b (by have := HN.out; omega) (by have := HN.out; omega) hp)
        have HK : Hid (Crc.cut b = Crc.front b) := qh (by unfold Crc.cut; rw [hp, if_pos rfl])
        have HP := qh hp
        clear hp
        have hmx : Tryz.prog.follows .mixedOrders = true := by kernel_rfl
        go_enter Tryz.func175, Tryz.ntmps175
        go_wp2_with fail
        refine (fit_good _ _ _ _ (by omega) (by omega) _).mono ?_
        rintro e w1 ⟨rfl, rfl⟩
        go_wp2_with fail
        refine (cut_any A n c b HN.out hnc (by omega) _ (hb.alloc _)).mono ?_
        rintro e w2 ⟨A2, n2, c2, rfl, hn2, hnc2, hc2, hy2, hbe2⟩
        rw [HP.out]
        rw [HK.out] at hn2 hy2
        have hbw2 := ((Below.refl _ w).alloc (zq _) _).trans (hbe2.mono (by simp))
        have hrow : w2.heap[w.heap.size]? = some (.cells #[.int .u8 0, .slice none 0 0] 69 (0, 0)) := (hbe2.block _ (by simp)).trans (heap_alloc_new w _)
        obtain ⟨hr0, hr1, hf0, hf1⟩ := row_two hrow
        obtain ⟨m, rfl⟩ : ∃ m, n2 = m + 1 := ⟨n2 - 1, by rw [Crc.front_length] at hn2; have := HN.out; omega⟩
        obtain ⟨b1, o1, rfl, hb1, hc1⟩ := hy2.at_ (by omega)
        obtain ⟨x, hx1, hx⟩ : ∃ x, (Crc.front b)[0]? = some x ∧ w2.cell? ⟨b1, o1, none⟩ = some (.int .u8 (x.toNat : Int)) := ⟨_, List.getElem?_eq_getElem (by omega), hc1 0 (by omega)⟩
        have HX : Hid (b.getD 0 0 = x) := qh (by
          unfold Crc.front at hx1
          rw [List.getElem?_take, if_pos (by have := HN.out; omega)] at hx1
          rw [List.getD_eq_getElem?_getD, hx1]; rfl)
        have HD := qh (hy2.drop 1)
        have H1 : Hid (Lies u8v w2 (some ⟨b1, o1, none⟩) [x]) := qh (Lies.of_row fun j hj => by
          obtain rfl : j = 0 := by simpa using hj
          exact hx)
        have HN2 := qh hn2
        have hm1 : 1 ≤ m := by rw [Crc.front_length] at hn2; have := HN.out; omega
        have hm2 : m ≤ 256 := by rw [Crc.front_length] at hn2; have := HN.out; omega
        have hc21 : ¬ c2 = 1 := by omega
        have hne : b1 ≠ w.heap.size := by
          rintro rfl
          have h0 := hc1 0 (by omega)
          have h1 := hc1 1 (by omega)
          rw [cell_of_row w2 _ _ _ _ _ hrow] at h0 h1
          rcases o1 with _ | _ | o
          · simp at h1
          · simp at h0
          · simp at h0
        clear hc1 hn2 hx1 hrow
        go_wp2
        go_region
        all_goals go_wp2
        all_goals
          refine bodyPost_ret_by (v := .tuple #[.agg #[.int .u8 (x.toNat : Int), .slice (some ⟨b1, o1 + 1, none⟩) m (c2 - 1)], .nilIface]) (by simp [results, Tryz.f175, go_sem, hr0, hr1]) rfl ?_
          refine ReadPost3E.good _ _ _ x b1 o1 m (c2 - 1) HC.out HX.out (by have := HN2.out; rw [Crc.front_length] at this; omega) (by omega) (by omega) ?_ ?_ (drewN_below ((hbw2.setCell (p := ⟨w.heap.size, 0, none⟩) (zq _) _).setCell (p := ⟨w.heap.size, 1, none⟩) (zq _) _) 1)
          · exact (HD.out.setCell_far (g := w.heap.size) hne 0 _).setCell_far hne 1 _
          · exact (H1.out.setCell_far (g := w.heap.size) hne 0 _).setCell_far hne 1 _

theorem two_stored {w : World} {g : Nat} {a b : Value} {t : TypeId} (h : w.heap[g]? = some (.cells #[a, b] t (0, 0))) (x y : Value) :
    ((w.setCell ⟨g, 0, none⟩ x).setCell ⟨g, 1, none⟩ y).heap[g]? = some (.cells #[x, y] t (0, 0)) := by
  simp [World.setCell, Array.getElem?_modify, h]
theorem two_later {w : World} {g : Nat} {a b : Value} {t : TypeId} (h : w.heap[g]? = some (.cells #[a, b] t (0, 0))) (O : Obj) : (w.alloc O).heap[g]? = some (.cells #[a, b] t (0, 0)) := by
  have hlt : g < w.heap.size := by
    rcases Nat.lt_or_ge g w.heap.size with h' | h'
    · exact h'
    · rw [Array.getElem?_eq_none h'] at h; cases h
  rw [← h]
  show (w.heap.push O)[g]? = w.heap[g]?
  rw [Array.getElem?_push, if_neg (by omega)]

set_option maxRecDepth 100000 in
set_option maxHeartbeats 1000000 in
theorem read3_any (A : Option Addr) (n c : Nat) (b : List UInt8) (hn : b.length = n) (hnc : n ≤ c) (hm : n ≤ 60000) (w : World) (hb : Lies u8v w A b) :
    Calls Tryz.prog 168 #[.slice A n c] w (ReadPost3 w b) := by
  have HN := qh hn
  clear hn
  have hmx : Tryz.prog.follows .mixedOrders = true := by kernel_rfl
  go_enter Tryz.func168, Tryz.ntmps168
  go_wp2_with fail
  refine (read3e_any A n c b HN.out hnc hm _ (hb.alloc _)).mono ?_
  rintro e w2 ⟨A2, n2, c2, v, rfl, hv, hn2, hnc2, hc2, hy2, hbe2, hoff⟩
  have HN2 := qh hn2
  have hbw2 := ((Below.refl _ w).alloc (zq _) _).trans (hbe2.mono (by simp))
  have hrow : w2.heap[w.heap.size]? = some (.cells #[.int .u8 0, .slice none 0 0] 69 (0, 0)) := (hbe2.block _ (by simp)).trans (heap_alloc_new w _)
  obtain ⟨hr0, hr1, hf0, hf1⟩ := row_two hrow
  have hz2 := hbw2.size
  have hlt : w.heap.size < w2.heap.size := by have := hbe2.size; simp at this; omega
  have hne : w2.heap.size ≠ w.heap.size := by omega
  have HF : Hid (∀ x y : Value, Lies u8v ((w2.setCell ⟨w.heap.size, 0, none⟩ x).setCell ⟨w.heap.size, 1, none⟩ y) A2 (Rtu.pdu b)) := qh (by
    intro x y
    rcases Nat.eq_zero_or_pos n2 with h0 | h0
    · have : Rtu.pdu b = [] := List.eq_nil_of_length_eq_zero (by omega)
      rw [this]
      exact Lies.nil _ _
    · obtain ⟨b1, o1, rfl, _, hc1⟩ := hy2.at_ (by omega)
      obtain ⟨o2, z, rfl, hz⟩ := hoff b1 o1 none rfl h0
      have hz0 := hz.row 0 (by simp)
      have hfar : b1 ≠ w.heap.size := by
        rintro rfl
        have h1 := hc1 0 (by omega)
        rw [cell_of_row w2 _ _ _ _ _ hrow] at h1 hz0
        rcases o2 with _ | o
        · simp at h1
        · simp at h1
      exact (hy2.setCell_far hfar _ _).setCell_far hfar _ _)
  clear hn2 hbe2 hb hy2 hoff
  rcases hv with ⟨hc0, rfl⟩ | ⟨s, j, rfl, hj, hcj⟩
  · have HC := qh hc0
    obtain ⟨k0, k1, _, _⟩ := row_two (two_later (two_stored hrow (.int .u8 (Rtu.unit b).toNat) (.slice A2 n2 c2)) (.cells #[.int .u8 (Rtu.unit b).toNat, .slice A2 n2 c2] 69))
    clear hc0 hrow
    go_wp2_with fail
    go_region_with (go_at_call 45; refine (number_nil _).mono ?_; rintro e w3 ⟨rfl, rfl⟩)
    all_goals go_wp2
    all_goals
      refine bodyPost_ret_by (v := .tuple #[.agg #[u8v (Rtu.unit b), .slice A2 n2 c2], .int .i64 0]) (by simp [results, Tryz.f168, go_sem, k0, k1]) rfl ?_
      exact ⟨A2, n2, c2, by rw [HC.out]; rfl, HN2.out, hnc2, hc2, (HF.out _ _).alloc _, drewN_below (((hbw2.setCell (p := ⟨w.heap.size, 0, none⟩) (zq _) _).setCell (p := ⟨w.heap.size, 1, none⟩) (zq _) _).alloc (by simp; omega) _) 1⟩
  · have HC := qh hcj
    have HF2 : Hid (∀ w3 : World, Below (w2.alloc (.cells #[.int .u8 (Rtu.unit b).toNat, .slice A2 n2 c2] 69)).drew.heap.size (w2.alloc (.cells #[.int .u8 (Rtu.unit b).toNat, .slice A2 n2 c2] 69)).drew w3 → w3.heap[w.heap.size]? = some (.cells #[.int .u8 0, .slice none 0 0] 69 (0, 0)) ∧ w3.heap[w2.heap.size]? = some (.cells #[.int .u8 (Rtu.unit b).toNat, .slice A2 n2 c2] 69 (0, 0)) ∧ Below w.heap.size w w3 ∧ ∀ x y : Value, Lies u8v ((w3.setCell ⟨w.heap.size, 0, none⟩ x).setCell ⟨w.heap.size, 1, none⟩ y) A2 (Rtu.pdu b)) := qh (by
      intro w3 h3
      have hp : Rtu.pdu b = [] := Rtu.pdu_bad b (by omega)
      have h4 : Below w2.heap.size w2 w3 := (drewN_below ((Below.refl w2.heap.size w2).alloc (zq _) (.cells #[.int .u8 (Rtu.unit b).toNat, .slice A2 n2 c2] 69)) 1).trans (h3.mono (by simp))
      exact ⟨(h4.block _ hlt).trans hrow, (h3.block _ (by simp)).trans (row_at w2 #[.int .u8 (Rtu.unit b).toNat, .slice A2 n2 c2] 69 w2.heap.size rfl), hbw2.trans (h4.mono hz2), fun x y => by rw [hp]; exact Lies.nil _ _⟩)
    clear hcj hrow hr0 hr1 hf0 hf1 HF hbw2
    go_wp2_with fail
    go_region_with (go_at_call 45; refine (number_fault s j hj _).mono ?_; rintro e w3 ⟨rfl, hb3⟩; obtain ⟨hq1, hq2, hbw3, hy3⟩ := HF2.out w3 hb3; obtain ⟨hr0, hr1, hf0, hf1⟩ := row_two hq1; obtain ⟨hx0, hx1, _, _⟩ := row_two hq2; clear hq2)
    all_goals go_wp2
    all_goals
      refine bodyPost_ret_by (v := .tuple #[.agg #[u8v (Rtu.unit b), .slice A2 n2 c2], .int .i64 j]) (by simp [results, Tryz.f168, go_sem, hr0, hr1]) rfl ?_
      exact ⟨A2, n2, c2, by rw [HC.out], HN2.out, hnc2, hc2, hy3 _ _, (hbw3.setCell (p := ⟨w.heap.size, 0, none⟩) (zq _) _).setCell (p := ⟨w.heap.size, 1, none⟩) (zq _) _⟩
end Go.Proofs.YtlgmjnjhdamknaaGreat

namespace Go.Proofs.YtlgmjnjhdamknaaGreat
open Go.RowKit

def FramePost (w : World) (l : List UInt8) (e : Ending) (w' : World) : Prop :=
  ∃ A n cc, e = .returned (.slice A n cc) ∧ l.length = n ∧ w'.ownsRow w.heap.size 5 1 (.slice A n cc) n (l.map u8v) ∧ Below w.heap.size w w'
set_option maxRecDepth 100000 in
set_option maxHeartbeats 1000000 in
theorem frame8_any (q D : Nat) (S : Nat → Prop) (c : Cfg) (st tr tk sl : Int) (a : Ask) (h k d : Hd) (b : List UInt8) (w : World) (x : LMRaw w q D S c st tr tk sl a h k d b) :
    Calls Tryz.prog 98 #[.pointer (some ⟨q, 0, none⟩)] w (FramePost w (Ms.sent c a)) := by
  obtain ⟨m5, m6, m7, m8, m9, m10, m11, m12⟩ := lm_asks x.row
  have HROW := qh x.row
  have HB6 := qh (bytes6_any a h k w x.ins)
  rw [askV_eq] at HB6
  have HS : Hid (Ms.sent c a = Rtu.bytes c.unit (Ak.bytes a)) := qh rfl
  clear x
  go_enter Tryz.func98, Tryz.ntmps98
  go_wp2_with fail
  refine HB6.out.mono ?_
  rintro e w3 ⟨A3, n3, k3, rfl, hn3, hown3, hb3⟩
  obtain ⟨l0, -⟩ := lm_loads (row_later HROW.out hb3)
  have hm3 := Ak.bytes_most a
  have HB3 := qh (bytes3_any c.unit A3 n3 k3 (Ak.bytes a) hn3 (by omega) w3 (own_at hown3).2.2.2)
  have HBL := qh hb3
  clear m5 m6 m7 m8 m9 m10 m11 m12 HB6 hown3 hm3 hb3 hn3
  go_wp2_with fail
  refine HB3.out.mono ?_
  rintro e w4 ⟨A4, n4, k4, rfl, hn4, hown4, hb4⟩
  have HF : Hid (FramePost w (Ms.sent c a) (.returned (.slice A4 n4 k4)) w4) := qh (by
    rw [HS.out]
    exact ⟨A4, n4, k4, rfl, hn4, own_lower hown4 HBL.out.size, HBL.out.trans (hb4.mono HBL.out.size)⟩)
  clear hown4 hb4 hn4
  go_wp2_with fail
  go_ret
  exact HF.out

theorem row_five8 {w : World} {g : Nat} {c0 c1 c2 c3 c4 : Value} {t : TypeId} (h : w.heap[g]? = some (.cells #[c0, c1, c2, c3, c4] t (0, 0))) :
    (w.cell? ⟨g, 0, none⟩ = some c0 ∧ w.cell? ⟨g, 1, none⟩ = some c1 ∧ w.cell? ⟨g, 2, none⟩ = some c2 ∧ w.cell? ⟨g, 3, none⟩ = some c3 ∧ w.cell? ⟨g, 4, none⟩ = some c4) ∧ (w.frozen? ⟨g, 0, none⟩ = false ∧ w.frozen? ⟨g, 1, none⟩ = false ∧ w.frozen? ⟨g, 2, none⟩ = false ∧ w.frozen? ⟨g, 3, none⟩ = false ∧ w.frozen? ⟨g, 4, none⟩ = false) := by
  simp [World.cell?, World.frozen?, h]
theorem stored_five8 {w : World} {g : Nat} {c0 c1 c2 c3 c4 : Value} {t : TypeId} (h : w.heap[g]? = some (.cells #[c0, c1, c2, c3, c4] t (0, 0))) (d0 d1 d2 d3 d4 : Value) (W : World) (hW : (((((w.setCell ⟨g, 0, none⟩ d0).setCell ⟨g, 1, none⟩ d1).setCell ⟨g, 2, none⟩ d2).setCell ⟨g, 3, none⟩ d3).setCell ⟨g, 4, none⟩ d4) = W) :
    W.heap[g]? = some (.cells #[d0, d1, d2, d3, d4] t (0, 0)) ∧ ∀ (S : List Nat) (a : World), But S a w → (g ∈ S ∨ a.heap.size ≤ g) → But S a W := by
  subst hW
  refine ⟨by simp [World.setCell, Array.getElem?_modify, h], fun S a hb hg => ?_⟩
  exact (((((hb.setCell (p := ⟨g, 0, none⟩) hg d0).setCell (p := ⟨g, 1, none⟩) hg d1).setCell (p := ⟨g, 2, none⟩) hg d2).setCell (p := ⟨g, 3, none⟩) hg d3).setCell (p := ⟨g, 4, none⟩) hg d4)
abbrev zeroOut : Obj := .cells #[.int .i64 0, .int .i64 0, .slice none 0 0, .slice none 0 0, .slice none 0 0] 48
abbrev outV (kind : Int) (xe : Int) (h k t : Hd) : Value := .agg #[.int .i64 kind, .int .i64 xe, .slice h.1 h.2.1 h.2.2, .slice k.1 k.2.1 k.2.2, .slice t.1 t.2.1 t.2.2]

set_option maxRecDepth 100000 in
set_option maxHeartbeats 400000 in
theorem rest8_any (p : Option Addr) (w : World) :
    Calls Tryz.prog 54 #[.pointer p] w fun e w' => e = .returned (.tuple #[.slice none 0 0, .agg #[.int .i64 0, .int .i64 0, .slice none 0 0, .slice none 0 0, .slice none 0 0]]) ∧ Below w.heap.size w w' := by
  have hrow := row_at w #[.int .i64 0, .int .i64 0, .slice none 0 0, .slice none 0 0, .slice none 0 0] 48 w.heap.size rfl
  have hb : Below w.heap.size w (w.alloc (.cells #[.int .i64 0, .int .i64 0, .slice none 0 0, .slice none 0 0, .slice none 0 0] 48)) := (Below.refl _ _).alloc (zq _) _
  obtain ⟨⟨o0, o1, o2, o3, o4⟩, y0, y1, y2, y3, y4⟩ := row_five8 hrow
  go_enter Tryz.func54, Tryz.ntmps54
  go_wp2_with fail
  refine bodyPost_ret_by (v := .tuple #[.slice none 0 0, .agg #[.int .i64 0, .int .i64 0, .slice none 0 0, .slice none 0 0, .slice none 0 0]]) (by simp [results, Tryz.f54, go_sem, o0, o1, o2, o3, o4]) rfl ?_
  exact ⟨rfl, hb⟩

def FailPost (w : World) (q : Nat) (row : Array Value) (kind : Int) (e : Ending) (w' : World) : Prop :=
  e = .returned (.agg #[.int .i64 kind, .int .i64 0, .slice none 0 0, .slice none 0 0, .slice none 0 0]) ∧ But [q] w w' ∧ w'.heap[q]? = some (.cells row 78 (0, 0))
set_option maxRecDepth 100000 in
set_option maxHeartbeats 1000000 in
theorem fail8_again (kind : Int) (q : Nat) (c : Cfg) (st tr tk sl : Int) (a : Ask) (h k d : Hd) (w : World) (hr : w.heap[q]? = some (.cells (lmCells c st tr tk sl a h k d) 78 (0, 0))) (ht : tr < (c.tries : Int)) :
    Calls Tryz.prog 100 #[.pointer (some ⟨q, 0, none⟩), .int .i64 kind] w (FailPost w q (lmCells c 1 tr 0 sl a h k (none, 0, 0)) 0) := by
  have hqlt := row_lt hr
  have HR := qh (row_later_set hr zeroOut)
  have hz := row_at w #[.int .i64 0, .int .i64 0, .slice none 0 0, .slice none 0 0, .slice none 0 0] 48 w.heap.size rfl
  have HZ := qh hz
  have HB : Hid (But [q] w (w.alloc zeroOut)) := qh ((But.refl [q] w).alloc zeroOut)
  obtain ⟨l0, l1, l2, l3, l4, l5, l6, l7, l8⟩ := lm_loads hr
  clear hr hz
  go_enter Tryz.func100, Tryz.ntmps100
  go_wp2_with fail
  have hd : decide (tr < (c.tries : Int)) = true := by simp; omega
  clear ht
  go_quiet (fail)
  obtain ⟨w2, hw2⟩ : ∃ w2, (w.alloc zeroOut).drewN nq = w2 := ⟨_, rfl⟩
  have b2 : But [q] w w2 := by rw [← hw2]; exact HB.out.drewN nq
  have HR2 : Hid (w2.heap[q]? = some (.cells (lmCells c st tr tk sl a h k d) 78 (0, 0))) := qh (by rw [← hw2]; exact HR.out)
  have HZ2 := qh (show w2.heap[w.heap.size]? = some zeroOut by rw [← hw2]; exact HZ.out)
  unfold zeroOut at hw2
  rw [hw2]
  clear hw2 l0 l1 l2 l3 l4 l5 l6 l7 l8 hd
  have HT := qh (turn8_any 1 q c st tr tk sl a h k d w2 HR2.out)
  go_wp2_with fail
  refine HT.out.mono ?_
  rintro e w3 ⟨rfl, hb3, hr3⟩
  have HZ3 := qh (row_but HZ2.out hb3 (by rw [List.mem_singleton]; omega))
  have hz3 := HZ3.out
  unfold zeroOut at hz3
  obtain ⟨⟨o0, o1, o2, o3, o4⟩, y0, y1, y2, y3, y4⟩ := row_five8 hz3
  have hlt3 : w.heap.size < w3.heap.size := row_lt hz3
  have HR3 := qh hr3
  have b3 := b2.trans hb3
  clear hz3 hb3 hr3
  go_wp2_with fail
  obtain ⟨wz, hwz⟩ : ∃ wz, (((((w3.setCell ⟨w.heap.size, 0, none⟩ (.int .i64 0)).setCell ⟨w.heap.size, 1, none⟩ (.int .i64 0)).setCell ⟨w.heap.size, 2, none⟩ (.slice none 0 0)).setCell ⟨w.heap.size, 3, none⟩ (.slice none 0 0)).setCell ⟨w.heap.size, 4, none⟩ (.slice none 0 0)) = wz := ⟨_, rfl⟩
  obtain ⟨hrz, hbz⟩ := stored_five8 HZ3.out _ _ _ _ _ wz hwz
  have HZB := qh hbz
  rw [hwz]
  clear hwz o0 o1 o2 o3 o4 y0 y1 y2 y3 y4 hbz
  obtain ⟨⟨o0, o1, o2, o3, o4⟩, -⟩ := row_five8 hrz
  refine bodyPost_ret_by (v := .agg #[.int .i64 0, .int .i64 0, .slice none 0 0, .slice none 0 0, .slice none 0 0]) (by simp [results, Tryz.f100, go_sem, o0, o1, o2, o3, o4]) rfl ?_
  exact ⟨rfl, HZB.out [q] w b3 (.inr (zq _)), row_but HR3.out (HZB.out [w.heap.size] w3 (But.refl _ _) (.inl (List.mem_singleton.2 rfl))) (by rw [List.mem_singleton]; omega)⟩

set_option maxRecDepth 100000 in
set_option maxHeartbeats 1000000 in
theorem fail8_over (kind : Int) (q : Nat) (c : Cfg) (st tr tk sl : Int) (a : Ask) (h k d : Hd) (w : World) (hr : w.heap[q]? = some (.cells (lmCells c st tr tk sl a h k d) 78 (0, 0))) (ht : ¬ tr < (c.tries : Int)) :
    Calls Tryz.prog 100 #[.pointer (some ⟨q, 0, none⟩), .int .i64 kind] w (FailPost w q (lmCells c 0 tr 0 sl Ak.zero (none, 0, 0) (none, 0, 0) (none, 0, 0)) kind) := by
  have hqlt := row_lt hr
  have HR := qh (row_later_set hr zeroOut)
  have hz := row_at w #[.int .i64 0, .int .i64 0, .slice none 0 0, .slice none 0 0, .slice none 0 0] 48 w.heap.size rfl
  have HZ := qh hz
  have HB : Hid (But [q] w (w.alloc zeroOut)) := qh ((But.refl [q] w).alloc zeroOut)
  obtain ⟨l0, l1, l2, l3, l4, l5, l6, l7, l8⟩ := lm_loads hr
  clear hr hz
  go_enter Tryz.func100, Tryz.ntmps100
  go_wp2_with fail
  have hd : decide (tr < (c.tries : Int)) = false := by simp; omega
  clear ht
  go_quiet (fail)
  obtain ⟨w2, hw2⟩ : ∃ w2, (w.alloc zeroOut).drewN nq = w2 := ⟨_, rfl⟩
  have b2 : But [q] w w2 := by rw [← hw2]; exact HB.out.drewN nq
  have HR2 : Hid (w2.heap[q]? = some (.cells (lmCells c st tr tk sl a h k d) 78 (0, 0))) := qh (by rw [← hw2]; exact HR.out)
  have HZ2 := qh (show w2.heap[w.heap.size]? = some zeroOut by rw [← hw2]; exact HZ.out)
  unfold zeroOut at hw2
  rw [hw2]
  clear hw2 l0 l1 l2 l3 l4 l5 l6 l7 l8 hd
  have HT := qh (end8_any q c st tr tk sl a h k d w2 HR2.out)
  go_wp2_with fail
  refine HT.out.mono ?_
  rintro e w3 ⟨rfl, hb3, hr3⟩
  have HZ3 := qh (row_but HZ2.out hb3 (by rw [List.mem_singleton]; omega))
  have hz3 := HZ3.out
  unfold zeroOut at hz3
  obtain ⟨⟨o0, o1, o2, o3, o4⟩, y0, y1, y2, y3, y4⟩ := row_five8 hz3
  have hlt3 : w.heap.size < w3.heap.size := row_lt hz3
  have HR3 := qh hr3
  have b3 := b2.trans hb3
  clear hz3 hb3 hr3
  go_wp2_with fail
  obtain ⟨wz, hwz⟩ : ∃ wz, (((((w3.setCell ⟨w.heap.size, 0, none⟩ (.int .i64 kind)).setCell ⟨w.heap.size, 1, none⟩ (.int .i64 0)).setCell ⟨w.heap.size, 2, none⟩ (.slice none 0 0)).setCell ⟨w.heap.size, 3, none⟩ (.slice none 0 0)).setCell ⟨w.heap.size, 4, none⟩ (.slice none 0 0)) = wz := ⟨_, rfl⟩
  obtain ⟨hrz, hbz⟩ := stored_five8 HZ3.out _ _ _ _ _ wz hwz
  have HZB := qh hbz
  rw [hwz]
  clear hwz o0 o1 o2 o3 o4 y0 y1 y2 y3 y4 hbz
  obtain ⟨⟨o0, o1, o2, o3, o4⟩, -⟩ := row_five8 hrz
  refine bodyPost_ret_by (v := .agg #[.int .i64 kind, .int .i64 0, .slice none 0 0, .slice none 0 0, .slice none 0 0]) (by simp [results, Tryz.f100, go_sem, o0, o1, o2, o3, o4]) rfl ?_
  exact ⟨rfl, HZB.out [q] w b3 (.inr (zq _)), row_but HR3.out (HZB.out [w.heap.size] w3 (But.refl _ _) (.inl (List.mem_singleton.2 rfl))) (by rw [List.mem_singleton]; omega)⟩

end Go.Proofs.YtlgmjnjhdamknaaGreat
