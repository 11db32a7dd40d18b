
/-
  The law MasterEnds, walked: it answers true, and nothing that was there is touched.
-/
import Derived.Test.YtlgmjnjhdamknaaGreatAwake8
import Derived.Test.YtlgmjnjhdamknaaGreatRparse
import Derived.Deep.Cut
import Derived.Deep.CutRange
import Derived.Deep.DeepCutAuto
namespace Go.Proofs.YtlgmjnjhdamknaaGreat
open Go.RowKit

theorem LMAt.widen {w w' : World} {q D : Nat} {S S' : Nat → Prop} {c : Cfg} {m : Mst} (x : LMAt w S q D c m) (hb : Below w.heap.size w w') (h1 : S' q) (h1' : S' D) (h2 : ∀ g, S' g → S g ∨ w.heap.size ≤ g) (h3 : ∀ g, S' g → g < w'.heap.size) : LMAt w' S' q D c m := by
  obtain ⟨st, tr, tk, a, h, k, d, b, hr, g1, g2⟩ := x
  exact ⟨st, tr, tk, a, h, k, d, b, hr.widen hb h1 h1' h2 h3, g1, g2⟩
/-- Bytes behind each header of a slice's elements. -/
def PiecesAt (w : World) (b o : Nat) (l : List (List UInt8)) : Prop :=
  ∀ j (hj : j < l.length), ∃ A n c, w.cell? ⟨b, o + j, none⟩ = some (.slice A n c) ∧ l[j].length = n ∧ n ≤ c ∧ c ≤ maxLen ∧ Lies u8v w A l[j]
theorem PiecesAt.below {w w' : World} {b o : Nat} {l : List (List UInt8)} (h : PiecesAt w b o l) (hb : Below w.heap.size w w') : PiecesAt w' b o l := by
  intro j hj
  obtain ⟨A, n, c, h1, h2, h3, h4, h5⟩ := h j hj
  exact ⟨A, n, c, cell_later hb h1, h2, h3, h4, h5.below hb (Nat.le_refl _)⟩
/-- What a law holds of a master that asks a, behind j ticks of its time, k frames sent. -/
structure EndsAt (w0 w : World) (q : Nat) (c : Cfg) (a : Ask) (j k : Nat) : Prop where
  at_ : ∃ S D m, LMAt w S q D c m ∧ w0.heap.size ≤ D ∧ Ms.Busy c a m.st ∧ Ms.left c m.st + j ≤ 3 * c.wait * c.tries ∧ Ms.tried m.st = k ∧ k ≤ c.tries
  up : Below w0.heap.size w0 w

theorem An.right_texts8 {a : Ask} {x : Ans} (h : An.right a x = true) : x.texts.length ≤ 256 := by
  obtain ⟨hr, -, -, -, -, ht, -, hw⟩ := An.right_parts h
  unfold Ak.right at hr
  rw [Bool.and_eq_true] at hr
  obtain ⟨-, -, -, -, -, -, a0, -⟩ := Ak.formed_parts hr.1
  cases hW : An.wantTexts a x with
  | true => have := (hw hW).2; omega
  | false =>
    rw [hW] at ht
    have : ¬ 0 < x.texts.length := by simpa using ht
    omega
theorem own_cells8 {α : Type} {f : α → Value} {w : World} {B e n c : Nat} {A : Option Addr} {l : List α} (h : w.ownsRow B e 1 (.slice A n c) n (l.map f)) (h0 : 0 < n) : ∃ g cs, A = some ⟨g, 0, none⟩ ∧ B ≤ g ∧ g < w.heap.size ∧ w.heap[g]? = some (.cells cs e (0, 0)) ∧ ∀ k, k < n → ∃ x, cs[k]? = some (f x) := by
  have ho := own_at h
  rcases h.2 with ⟨hv, hn⟩ | ⟨g, cap, cur, hv, hb, hg, _⟩
  · omega
  · cases hv
    refine ⟨g, cur, rfl, hb, row_lt hg, hg, fun k hk => ?_⟩
    have := ho.2.2.2.row k (by omega)
    rw [Nat.zero_add, cell_of_row _ _ _ _ _ _ hg] at this
    exact ⟨_, this⟩
theorem set_keeps8 {α : Type} {cs : Array Value} {f : α → Value} {j n : Nat} (h : ∀ k, j ≤ k → k < n → ∃ x, cs[k]? = some (f x)) (v : Value) : ∀ k, j + 1 ≤ k → k < n → ∃ x, (cs.setIfInBounds j v)[k]? = some (f x) := by
  intro k h1 h2
  obtain ⟨x, hx⟩ := h k (by omega) h2
  exact ⟨x, by rw [Array.getElem?_setIfInBounds_ne (by omega)]; exact hx⟩

set_option maxRecDepth 100000 in
set_option maxHeartbeats 4000000 in
theorem ends8_any (u : UInt8) (g f t : Int) (a : Ask) (ah ak : Hd) (nA : Option Addr) (nn nc : Nat) (noise : List (List UInt8)) (hnn : noise.length = nn) (w : World) (ha : AskIn w a ah ak) (hnz : 0 < nn → ∃ b o, nA = some ⟨b, o, none⟩ ∧ PiecesAt w b o noise) :
    Calls Tryz.prog 4 #[.agg #[u8v u, .int .i64 g, .int .i64 f, .int .i64 t], askV a ah ak, .slice nA nn nc] w fun e w' => e = .returned (.bool true) ∧ Below w.heap.size w w' := by
  rw [askV_eq]
  have c1 := row_at w #[u8v u, .int .i64 g, .int .i64 f, .int .i64 t] 23 w.heap.size rfl
  obtain ⟨wa, hwa⟩ : ∃ wa, w.alloc (.cells #[u8v u, .int .i64 g, .int .i64 f, .int .i64 t] 23) = wa := ⟨_, rfl⟩
  rw [hwa] at c1
  have sa : wa.heap.size = w.heap.size + 1 := by rw [← hwa]; simp
  have ba : Below w.heap.size w wa := by rw [← hwa]; exact (Below.refl _ _).alloc (Nat.le_refl _) _
  have a1 := row_at wa (askCells a ah ak) 40 (w.heap.size + 1) sa
  obtain ⟨w0, hw0⟩ : ∃ wb, wa.alloc (.cells (askCells a ah ak) 40) = wb := ⟨_, rfl⟩
  rw [hw0] at a1
  have bb : Below wa.heap.size wa w0 := by rw [← hw0]; exact (Below.refl _ _).alloc (Nat.le_refl _) _
  have HB0 : Hid (Below w.heap.size w w0) := Lib.hid (ba.trans (bb.mono ba.size))
  have HC := Lib.hid (row_later c1 bb)
  have HA := Lib.hid a1
  have HAI := Lib.hid (ha.below HB0.out)
  have HNZ : Hid (0 < nn → ∃ b o, nA = some ⟨b, o, none⟩ ∧ PiecesAt w0 b o noise) := Lib.hid (fun h => by
    obtain ⟨b, o, h1, h2⟩ := hnz h
    exact ⟨b, o, h1, h2.below HB0.out⟩)
  have HNN := Lib.hid hnn
  have hn0 : w.heap.size + 1 < w0.heap.size := row_lt a1
  unfold askCells at hw0
  have HW : Hid ((w.alloc (.cells #[u8v u, .int .i64 g, .int .i64 f, .int .i64 t] 23)).alloc (.cells #[.int .i64 a.code, .int .i64 a.addr, .int .i64 a.count, .int .i64 a.to, .slice ah.1 ah.2.1 ah.2.2, .slice ak.1 ak.2.1 ak.2.2, u16v a.and_, u16v a.or_] 40) = w0) := Lib.hid (by rw [hwa, hw0])
  clear c1 hwa sa ba a1 hw0 bb ha hnz hnn
  go_enter Tryz.func4, Tryz.ntmps4
  go_wp2_with fail
  rw [HW.out]
  clear HW
  refine (awake8_any w0).mono ?_
  rintro e w1 ⟨rfl, hbe1⟩
  obtain ⟨p0, p1, p2, p3⟩ := row_quad (row_later HC.out hbe1)
  go_wp2_with fail
  refine (new8_any u g f t w1).mono ?_
  rintro e w2 ⟨hb2, hcase⟩
  have hbe2 := hbe1.trans (hb2.mono hbe1.size)
  clear p0 p1 p2 p3
  obtain ⟨p0, p1, p2, p3⟩ := row_quad (row_later HC.out hbe2)
  rcases hcase with ⟨c, q, hu, hg, hf, ht, hrc, he, hqw, hm⟩ | ⟨hno, he⟩
  · obtain rfl := he
    have hqw0 : w0.heap.size ≤ q := Nat.le_trans hbe1.size hqw
    have hsm := cfg_small hrc
    subst hu hg hf ht
    clear hb2 hbe1 hqw
    have ra := row_later HA.out hbe2
    obtain ⟨r0, r1, r2, r3, r4, r5, r6, r7⟩ := row_eight (show w2.heap[w.heap.size + 1]? = some (.cells #[_, _, _, _, _, _, _, _] _ (0, 0)) from ra)
    have HL := Lib.hid (rlarge_any a ah ak w2 (HAI.out.below hbe2))
    rw [askV_eq] at HL
    obtain ⟨LA, hLA⟩ : ∃ LA, (decide (300 < a.words.length) || decide (3000 < a.bits.length)) = LA := ⟨_, rfl⟩
    rw [hLA] at HL
    have HLA := Lib.hid hLA
    clear ra hLA
    go_wp2_with fail
    refine HL.out.mono ?_
    rintro e w3 ⟨rfl, hb3⟩
    have hm3 := hm.below hb3
    have hbe3 := hbe2.trans (hb3.mono hbe2.size)
    clear HL hb3 hm hbe2 r0 r1 r2 r3 r4 r5 r6 r7 p0 p1 p2 p3
    obtain ⟨p0, p1, p2, p3⟩ := row_quad (row_later HC.out hbe3)
    cases LA with
    | true =>
      go_wp2_with fail
      go_ret
      exact ⟨rfl, HB0.out.trans (hbe3.mono HB0.out.size)⟩
    | false =>
    by_cases hw60 : (c.wait : Int) > 60
    · go_wp2_with fail
      go_ret
      exact ⟨rfl, HB0.out.trans (hbe3.mono HB0.out.size)⟩
    have hd : decide ((60 : Int) < (c.wait : Int)) = false := by simp; omega
    have HW60 : Hid (c.wait ≤ 60) := Lib.hid (by omega)
    clear hw60
    by_cases hn2 : (nn : Int) > 200
    · go_wp2_with fail
      go_ret
      exact ⟨rfl, HB0.out.trans (hbe3.mono HB0.out.size)⟩
    have hd2 : decide ((200 : Int) < (nn : Int)) = false := by simp; omega
    have HN2 : Hid (nn ≤ 200) := Lib.hid (by omega)
    clear hn2
    have hfew : a.words.length ≤ 300 ∧ a.bits.length ≤ 3000 := by
      have h := HLA.out
      simp only [Bool.or_eq_false_iff, decide_eq_false_iff_not] at h
      omega
    have HAI3 := Lib.hid (HAI.out.below hbe3)
    obtain ⟨hA, hn, hc⟩ := ah
    obtain ⟨kA, kn, kc⟩ := ak
    have HNW := Lib.hid HAI3.out.hn
    have HNB := Lib.hid HAI3.out.kn
    have hhn : a.words.length = hn := HNW.out
    have hkn : a.bits.length = kn := HNB.out
    rw [hhn, hkn] at hfew
    have ra := row_later HA.out hbe3
    obtain ⟨r0, r1, r2, r3, r4, r5, r6, r7⟩ := row_eight (show w3.heap[w.heap.size + 1]? = some (.cells #[_, _, _, _, _, _, _, _] _ (0, 0)) from ra)
    have hga : w.heap.size + 1 < w3.heap.size := row_lt ra
    have hrb := row_at w3 (askCells a (hA, hn, hc) (kA, kn, kc)) 40 w3.heap.size rfl
    clear ra hhn hkn
    have hz1 : (w3.alloc (.cells (askCells a (hA, hn, hc) (kA, kn, kc)) 40)).heap.size = w3.heap.size + 1 := by simp
    have HR1 := Lib.hid hrb
    have HVS := Lib.hid hz1
    have hb1 : Below w3.heap.size w3 (w3.alloc (.cells (askCells a (hA, hn, hc) (kA, kn, kc)) 40)) := (Below.refl _ _).alloc (Nat.le_refl _) _
    obtain ⟨V, hV⟩ : ∃ V, w3.alloc (.cells (askCells a (hA, hn, hc) (kA, kn, kc)) 40) = V := ⟨_, rfl⟩
    rw [hV] at HR1 hz1 hb1 HVS
    unfold askCells at hV
    have HV := Lib.hid hV
    have hbl : Below V.heap.size V (V.alloc (.cells #[] 38)) := (Below.refl _ _).alloc (Nat.le_refl _) _
    have hL1 : Lies u16v (V.alloc (.cells #[] 38)) hA a.words := (HAI3.out.hl.below hb1 (Nat.le_refl _)).below hbl (Nat.le_refl _)
    have hown1 : (V.alloc (.cells #[] 38)).ownsRow V.heap.size 38 1 (.slice (some ⟨V.heap.size, 0, none⟩) 0 0) 0 (([] : List UInt16).map u16v) := own_lit u16v V #[] 38 V.heap.size V.heap.size 0 [] rfl rfl (Nat.le_refl _) rfl (Nat.zero_le _)
    have hs1 : V.heap.size ≤ (V.alloc (.cells #[] 38)).heap.size := by simp
    have HL1 := Lib.hid hL1
    have HOWN1 := Lib.hid hown1
    have HBL := Lib.hid hbl
    clear hrb hL1 hown1 hbl hV
    go_upto_region 8 with fail
    rw [HV.out]
    obtain ⟨g14, g15, f14, f15⟩ := ask_lists HR1.out
    have hgV : w3.heap.size < V.heap.size := by omega
    have haV : w.heap.size + 1 < V.heap.size := by omega
    have ra := row_later HA.out (hbe3.trans (hb1.mono hbe3.size))
    clear r0 r1 r2 r3 r4 r5 r6 r7
    obtain ⟨r0, r1, r2, r3, r4, r5, r6, r7⟩ := row_eight (show V.heap[w.heap.size + 1]? = some (.cells #[_, _, _, _, _, _, _, _] _ (0, 0)) from ra)
    clear ra hz1
    go_upto_region 9 with (first
      | (at_builtin; refine wpList_append_lies kit16 one16 _ rfl (.tmp 57) (.tmp 59) rfl V.heap.size _ 0 [] rfl HOWN1.out hA hn hc a.words rfl HNW.out HL1.out (by omega) (by unfold maxLen; omega) hs1 ?_; intro A4 c4 w4 hown4 hg4 hb4; have hbw4 := HBL.out.trans hb4; have hz4 := hbw4.size; have hrw4 := row_later HR1.out hbw4; have hF4 := ask_lists hrw4; have g24 := hF4.1; have f24 := hF4.2.2.1; (try simp only [Nat.zero_add, List.nil_append] at hown4); have hgb4 : w3.heap.size < w4.heap.size := row_lt hrw4; clear hF4 hg4)
      | fail)
    have HOWN4 := Lib.hid hown4
    have HB14 : Hid (Below w3.heap.size w3 w4) := Lib.hid (hb1.trans (hbw4.mono hb1.size))
    obtain ⟨w5, hw5⟩ : ∃ w5, w4.setCell ⟨w3.heap.size, 4, none⟩ (.slice A4 hn c4) = w5 := ⟨_, rfl⟩
    have HB45 : Hid (But [w3.heap.size] w4 w5) := Lib.hid (by rw [← hw5]; exact But.one w4 w3.heap.size 4 _)
    have HR5 : Hid (w5.heap[w3.heap.size]? = some (.cells (askCells a (A4, hn, c4) (kA, kn, kc)) 40 (0, 0))) := Lib.hid (by rw [← hw5, row_set hrw4]; rfl)
    have HB35 : Hid (Below w3.heap.size w3 w5) := Lib.hid (by rw [← hw5]; exact HB14.out.setCell (p := ⟨w3.heap.size, 4, none⟩) (Nat.le_refl _) _)
    have HA5 := Lib.hid (row_later HA.out (hbe3.trans (HB35.out.mono hbe3.size)))
    rw [hw5]
    clear hw5 hown4 hbw4 hz4 hrw4 g24 f24 hgb4 hb4 g14 g15 f14 f15 r0 r1 r2 r3 r4 r5 r6 r7 hs1 HL1 HOWN1 HBL HV hgV haV hb1
    have hbl5 : Below w5.heap.size w5 (w5.alloc (.cells #[] 4)) := (Below.refl _ _).alloc (Nat.le_refl _) _
    have HBL5 := Lib.hid hbl5
    have HL5 : Hid (Lies bitv (w5.alloc (.cells #[] 4)) kA a.bits) := Lib.hid ((HAI3.out.kl.below HB35.out (Nat.le_refl _)).below hbl5 (Nat.le_refl _))
    have HOW5 : Hid ((w5.alloc (.cells #[] 4)).ownsRow w5.heap.size 4 1 (.slice (some ⟨w5.heap.size, 0, none⟩) 0 0) 0 (([] : List Bool).map bitv)) := Lib.hid (own_lit bitv w5 #[] 4 w5.heap.size w5.heap.size 0 [] rfl rfl (Nat.le_refl _) rfl (Nat.zero_le _))
    have hs5 : w5.heap.size ≤ (w5.alloc (.cells #[] 4)).heap.size := by simp
    have hgb5 : w3.heap.size < w5.heap.size := row_lt HR5.out
    have hga5 : w.heap.size + 1 < w5.heap.size := row_lt HA5.out
    obtain ⟨r0, r1, r2, r3, r4, r5, r6, r7⟩ := row_eight (show w5.heap[w.heap.size + 1]? = some (.cells #[_, _, _, _, _, _, _, _] _ (0, 0)) from HA5.out)
    clear hbl5
    go_upto_region 10 with (first
      | (at_builtin; refine wpList_append_lies kitb oneb _ rfl (.tmp 62) (.tmp 64) rfl w5.heap.size _ 0 [] rfl HOW5.out kA kn kc a.bits rfl HNB.out HL5.out (by omega) (by unfold maxLen; omega) hs5 ?_; intro A6 c6 w6 hown6 hg6 hb6; have hbw6 := HBL5.out.trans hb6; have hrw6 := row_later HR5.out hbw6; have hF6 := ask_lists hrw6; have g65 := hF6.2.1; have f65 := hF6.2.2.2; (try simp only [Nat.zero_add, List.nil_append] at hown6); have hgb6 : w3.heap.size < w6.heap.size := row_lt hrw6; clear hF6 hg6)
      | fail)
    have HOWN6 := Lib.hid hown6
    have HBW6 := Lib.hid hbw6
    obtain ⟨w7, hw7⟩ : ∃ w7, w6.setCell ⟨w3.heap.size, 5, none⟩ (.slice A6 kn c6) = w7 := ⟨_, rfl⟩
    have HB67 : Hid (But [w3.heap.size] w6 w7) := Lib.hid (by rw [← hw7]; exact But.one w6 w3.heap.size 5 _)
    have HR7 : Hid (w7.heap[w3.heap.size]? = some (.cells (askCells a (A4, hn, c4) (A6, kn, c6)) 40 (0, 0))) := Lib.hid (by rw [← hw7, row_set hrw6]; rfl)
    have HB37 : Hid (Below w3.heap.size w3 w7) := Lib.hid (by rw [← hw7]; exact (HB35.out.trans (hbw6.mono HB35.out.size)).setCell (p := ⟨w3.heap.size, 5, none⟩) (Nat.le_refl _) _)
    rw [hw7]
    clear hw7 hown6 hbw6 hrw6 g65 f65 hgb6 hb6 r0 r1 r2 r3 r4 r5 r6 r7 hs5 HL5 HOW5 HBL5 hgb5 hga5 HA5
    have hS7 : LMAt w7 (fun g => g = q ∨ (w3.heap.size ≤ g ∧ g < w7.heap.size)) q q c ⟨c.gap, .idle⟩ := hm3.widen HB37.out (.inl rfl) (.inl rfl) (fun g hg => hg.imp id (fun h => h.1)) (fun g hg => by
      rcases hg with rfl | hg
      · exact Nat.lt_of_lt_of_le hm3.lt HB37.out.size
      · exact hg.2)
    have ho4 := own_at HOWN4.out
    have ho6 := own_at HOWN6.out
    have hin : AskIn w7 a (A4, hn, c4) (A6, kn, c6) := ⟨ho4.2.2.1, ho4.1, ho4.2.1, ((ho4.2.2.2.but HB45.out (fun b o s e _ hm => by
        subst e
        have h1 := (HOWN4.out.lt b rfl).1
        have h2 := HVS.out
        have h3 := List.mem_singleton.1 hm
        omega)).below HBW6.out (Nat.le_refl _)).but HB67.out (fun b o s e _ hm => by
        subst e
        have h1 := (HOWN4.out.lt b rfl).1
        have h2 := HVS.out
        have h3 := List.mem_singleton.1 hm
        omega), ho6.2.2.1, ho6.1, ho6.2.1, ho6.2.2.2.but HB67.out (fun b o s e _ hm => by
        subst e
        have h1 := (HOWN6.out.lt b rfl).1
        have h2 : w3.heap.size < w5.heap.size := row_lt HR5.out
        have h3 := List.mem_singleton.1 hm
        omega)⟩
    have HST := Lib.hid (start8_any (fun g => g = q ∨ (w3.heap.size ≤ g ∧ g < w7.heap.size)) q q c ⟨c.gap, .idle⟩ a (A4, hn, c4) (A6, kn, c6) w7 hS7 hin)
    rw [askV_eq] at HST
    obtain ⟨r0, r1, r2, r3, r4, r5, r6, r7⟩ := row_eight (show w7.heap[w3.heap.size]? = some (.cells #[_, _, _, _, _, _, _, _] _ (0, 0)) from HR7.out)
    have HQ3 := Lib.hid hm3.lt
    clear hS7 ho4 ho6 hin hm3
    cases hra : Ak.right a with
    | false =>
      have hs : Ms.start ⟨c.gap, .idle⟩ a = (⟨c.gap, .idle⟩, 2) := by
        unfold Ms.start
        rw [if_neg (by show ¬ ¬ (0 : Nat) = 0; decide), if_neg (by rw [hra]; decide)]
      rw [hs] at HST
      clear hs
      go_wp2_with fail
      refine HST.out.mono ?_
      rintro e w8 ⟨rfl, -, hb8⟩
      have hbe8 := but_up (hbe3.trans (HB37.out.mono hbe3.size)) hb8 hqw0
      clear hb8 HST
      go_wp2_with fail
      go_ret
      exact ⟨rfl, HB0.out.trans (hbe8.mono HB0.out.size)⟩
    | true =>
    have hs : Ms.start ⟨c.gap, .idle⟩ a = (⟨c.gap, .wants 0 0 a⟩, 0) := by
      unfold Ms.start
      rw [if_neg (by show ¬ ¬ (0 : Nat) = 0; decide), if_pos hra]
    rw [hs] at HST
    clear hs
    go_wp2_with fail
    refine HST.out.mono ?_
    rintro e w8 ⟨rfl, hm8, hb8⟩
    have hbe8 := but_up (hbe3.trans (HB37.out.mono hbe3.size)) hb8 hqw0
    have HB78 := Lib.hid hb8
    have HM8 := Lib.hid hm8
    have HBE8 := Lib.hid hbe8
    clear hm8 hb8 hbe8 HST r0 r1 r2 r3 r4 r5 r6 r7
    have hgq : w3.heap.size ∉ [q] := by have := HQ3.out; rw [List.mem_singleton]; omega
    have HR8 := Lib.hid (row_but HR7.out HB78.out hgq)
    have HS57 : Hid (w5.heap.size ≤ w7.heap.size ∧ w3.heap.size < w5.heap.size) := Lib.hid ⟨Nat.le_trans HBW6.out.size HB67.out.size, row_lt HR5.out⟩
    have HWD : Hid (∃ (g4 : Nat) (T4 : List Nat), (∀ g ∈ T4, w3.heap.size < g ∧ g < w5.heap.size) ∧ (0 < hn → g4 ∈ T4 ∧ A4 = some ⟨g4, 0, none⟩ ∧ ∃ cs, w8.heap[g4]? = some (.cells cs 38 (0, 0)) ∧ ∀ k, 0 ≤ k → k < hn → ∃ x : UInt16, cs[k]? = some (u16v x))) := Lib.hid (by
      rcases Nat.eq_zero_or_pos hn with h | h
      · exact ⟨0, [], (fun _ h => absurd h List.not_mem_nil), fun h0 => by omega⟩
      · obtain ⟨g4, cs, e4, hb4, hlt, hrow, hcs⟩ := own_cells8 HOWN4.out h
        have h2 := HVS.out
        have hl4 : g4 < w5.heap.size := Nat.lt_of_lt_of_le hlt HB45.out.size
        have hg4 : g4 ∉ [w3.heap.size] := by rw [List.mem_singleton]; omega
        have hq4 : g4 ∉ [q] := by have := HQ3.out; rw [List.mem_singleton]; omega
        refine ⟨g4, [g4], fun g hg => ?_, fun _ => ⟨List.mem_singleton.2 rfl, e4, cs, row_but (row_but (row_later (row_but hrow HB45.out hg4) HBW6.out) HB67.out hg4) HB78.out hq4, fun k _ hk => hcs k hk⟩⟩
        rw [List.mem_singleton.1 hg]
        exact ⟨by omega, hl4⟩)
    have HBT : Hid (∃ (g6 : Nat) (T6 : List Nat), (∀ g ∈ T6, w5.heap.size ≤ g ∧ g < w7.heap.size) ∧ (0 < kn → g6 ∈ T6 ∧ A6 = some ⟨g6, 0, none⟩ ∧ ∃ cs, w8.heap[g6]? = some (.cells cs 4 (0, 0)) ∧ ∀ k, 0 ≤ k → k < kn → ∃ x : Bool, cs[k]? = some (bitv x))) := Lib.hid (by
      rcases Nat.eq_zero_or_pos kn with h | h
      · exact ⟨0, [], (fun _ h => absurd h List.not_mem_nil), fun h0 => by omega⟩
      · obtain ⟨g6, cs, e6, hb6, hlt, hrow, hcs⟩ := own_cells8 HOWN6.out h
        have h2 := HS57.out
        have hg6 : g6 ∉ [w3.heap.size] := by rw [List.mem_singleton]; omega
        have hq6 : g6 ∉ [q] := by have := HQ3.out; rw [List.mem_singleton]; omega
        refine ⟨g6, [g6], fun g hg => ?_, fun _ => ⟨List.mem_singleton.2 rfl, e6, cs, row_but (row_but hrow HB67.out hg6) HB78.out hq6, fun k _ hk => hcs k hk⟩⟩
        rw [List.mem_singleton.1 hg]
        exact ⟨hb6, Nat.lt_of_lt_of_le hlt HB67.out.size⟩)
    have HLT4 : Hid (∀ g, A4 = some ⟨g, 0, none⟩ → 0 < hn → g < w5.heap.size) := Lib.hid (fun g e h => by
      subst e
      exact Nat.lt_of_lt_of_le (HOWN4.out.lt g rfl).2 HB45.out.size)
    obtain ⟨g4, T4, hT4, hw4⟩ := HWD.out
    have HT4 := Lib.hid hT4
    have HW4 := Lib.hid hw4
    have hn300 : (hn : Int) < 9223372036854775807 := by omega
    clear hT4 hw4
    go_wp2_with fail
    go_loopw [11] (fun i wr => ∃ j : Nat, j ≤ hn ∧ i = .int .i64 j ∧ But T4 w8 wr ∧ (0 < hn → ∃ cs, wr.heap[g4]? = some (.cells cs 38 (0, 0)) ∧ ∀ k, j ≤ k → k < hn → ∃ x : UInt16, cs[k]? = some (u16v x))) (fun i _ => hn - (intOf i).toNat)
    case atStart => exact ⟨0, Nat.zero_le _, rfl, But.refl _ _, fun h => (HW4.out h).2.2⟩
    case round =>
      obtain ⟨j, hj, rfl, hbw, hrw⟩ := hrel
      have hgT : w3.heap.size ∉ T4 := fun h => by have := (HT4.out _ h).1; omega
      have hrb := row_but HR8.out hbw hgT
      obtain ⟨r0, r1, r2, r3, r4, r5, r6, r7⟩ := row_eight (show wr.heap[w3.heap.size]? = some (.cells #[_, _, _, _, _, _, _, _] _ (0, 0)) from hrb)
      have hgb : w3.heap.size < wr.heap.size := row_lt hrb
      have HBW := Lib.hid hbw
      have HRW := Lib.hid hrw
      clear hbw hrw hrb
      by_cases hlt : j < hn
      · obtain ⟨cs, hcs, hx⟩ := HRW.out (by omega)
        obtain ⟨hgm, e4, -⟩ := HW4.out (by omega)
        subst e4
        obtain ⟨x, hxj⟩ := hx j (Nat.le_refl _) hlt
        have hcj : wr.cell? ⟨g4, j, none⟩ = some (u16v x) := by rw [cell_of_row _ _ _ _ _ _ hcs]; exact hxj
        have hfj : wr.frozen? ⟨g4, j, none⟩ = false := by simp [World.frozen?, hcs]
        have hg4l : g4 < wr.heap.size := row_lt hcs
        have ilt : (j : Int) < (hn : Int) := by omega
        have HCS := Lib.hid hcs
        have HX := Lib.hid hx
        have HGM := Lib.hid hgm
        clear hcs hx hxj hlt hgm hgT
        go_wp2_with fail
        go_region
        go_wp2_with fail
        go_roundw
        case rel => exact ⟨j + 1, by omega, by go_num, (HBW.out.setCell (p := ⟨g4, j, none⟩) (.inl HGM.out) _).drewN 1, fun _ => ⟨_, row_set HCS.out _, set_keeps8 HX.out _⟩⟩
        case measure => simp [intOf]; omega
      · obtain rfl : hn = j := by omega
        rename World => w9
        have HB89 : Hid (But T4 w8 w9) := HBW
        have HR9 := Lib.hid (row_but HR8.out HBW.out hgT)
        obtain ⟨g6, T6, hT6, hw6⟩ := HBT.out
        have HT6 := Lib.hid hT6
        have HW6 : Hid (0 < kn → g6 ∈ T6 ∧ A6 = some ⟨g6, 0, none⟩ ∧ ∃ cs, w9.heap[g6]? = some (.cells cs 4 (0, 0)) ∧ ∀ k, 0 ≤ k → k < kn → ∃ x : Bool, cs[k]? = some (bitv x)) := Lib.hid (fun h => by
          obtain ⟨k1, k2, cs, k3, k4⟩ := hw6 h
          exact ⟨k1, k2, cs, row_but k3 HBW.out (fun hm => by have h1 := (hT6 g6 k1).1; have h2 := (HT4.out g6 hm).2; omega), k4⟩)
        have kn300 : (kn : Int) < 9223372036854775807 := by omega
        clear hlt hgT hT6 hw6 HBW HRW r0 r1 r2 r3 r4 r5 r6 r7
        obtain ⟨r0, r1, r2, r3, r4, r5, r6, r7⟩ := row_eight (show w9.heap[w3.heap.size]? = some (.cells #[_, _, _, _, _, _, _, _] _ (0, 0)) from HR9.out)
        go_wp2_with fail
        clear r0 r1 r2 r3 r4 r5 r6 r7 hgb
        go_loopw [12] (fun i wr => ∃ j : Nat, j ≤ kn ∧ i = .int .i64 j ∧ But T6 w9 wr ∧ (0 < kn → ∃ cs, wr.heap[g6]? = some (.cells cs 4 (0, 0)) ∧ ∀ k, j ≤ k → k < kn → ∃ x : Bool, cs[k]? = some (bitv x))) (fun i _ => kn - (intOf i).toNat)
        case atStart => exact ⟨0, Nat.zero_le _, rfl, But.refl _ _, fun h => (HW6.out h).2.2⟩
        case round =>
          obtain ⟨j, hj, rfl, hbw, hrw⟩ := hrel
          have hgT : w3.heap.size ∉ T6 := fun h => by have h1 := (HT6.out _ h).1; have h2 := HS57.out.2; omega
          have hrb := row_but HR9.out hbw hgT
          obtain ⟨r0, r1, r2, r3, r4, r5, r6, r7⟩ := row_eight (show wr.heap[w3.heap.size]? = some (.cells #[_, _, _, _, _, _, _, _] _ (0, 0)) from hrb)
          have hgb : w3.heap.size < wr.heap.size := row_lt hrb
          have HBW := Lib.hid hbw
          have HRW := Lib.hid hrw
          clear hbw hrw hrb
          by_cases hlt : j < kn
          · obtain ⟨cs, hcs, hx⟩ := HRW.out (by omega)
            obtain ⟨hgm, e6, -⟩ := HW6.out (by omega)
            subst e6
            obtain ⟨x, hxj⟩ := hx j (Nat.le_refl _) hlt
            have hcj : wr.cell? ⟨g6, j, none⟩ = some (bitv x) := by rw [cell_of_row _ _ _ _ _ _ hcs]; exact hxj
            have hfj : wr.frozen? ⟨g6, j, none⟩ = false := by simp [World.frozen?, hcs]
            have hg6l : g6 < wr.heap.size := row_lt hcs
            have ilt : (j : Int) < (kn : Int) := by omega
            have HCS := Lib.hid hcs
            have HX := Lib.hid hx
            have HGM := Lib.hid hgm
            clear hcs hx hxj hlt hgm hgT
            go_wp2_with fail
            go_region
            go_wp2_with fail
            go_roundw
            case rel => exact ⟨j + 1, by omega, by go_num, (HBW.out.setCell (p := ⟨g6, j, none⟩) (.inl HGM.out) _).drewN 1, fun _ => ⟨_, row_set HCS.out _, set_keeps8 HX.out _⟩⟩
            case measure => simp [intOf]; omega
          · obtain rfl : kn = j := by omega
            clear hlt hgT
            go_wp2_with fail
            clear r0 r1 r2 r3 r4 r5 r6 r7 hgb
            rename World => w10
            have hm10 : LMAt w10 (fun g => g = q ∨ (w3.heap.size ≤ g ∧ g < w7.heap.size)) q q c ⟨c.gap, .wants 0 0 a⟩ := by
              have hq3 := HQ3.out
              have h57 := HS57.out
              have h4q : q ∉ T4 := fun h => by have := (HT4.out q h).1; omega
              have h6q : q ∉ T6 := fun h => by have := (HT6.out q h).1; omega
              exact (HM8.out.but HB89.out (fun g hg => .inr ⟨by have := (HT4.out g hg).1; omega, by have := (HT4.out g hg).2; omega⟩) h4q h4q).but HBW.out (fun g hg => .inr ⟨by have := (HT6.out g hg).1; omega, (HT6.out g hg).2⟩) h6q h6q
            have hbe10 : Below w0.heap.size w0 w10 := by
              have h3 := hbe3.size
              have h57 := HS57.out
              have h9 := HBE8.out.trans (HB89.out.below (fun g hg => by have := (HT4.out g hg).1; omega) HBE8.out.size)
              exact h9.trans (HBW.out.below (fun g hg => by have := (HT6.out g hg).1; omega) h9.size)
            have HM10 := Lib.hid hm10
            have HBE10 := Lib.hid hbe10
            have HHN := Lib.hid hra
            have nn300 : (nn : Int) < 9223372036854775807 := by have := HN2.out; omega
            clear hm10 hbe10 HB89 HBW HRW HT4 HT6 HW4 HW6 HR8 HR9 HM8 HBE8 HB78 HWD HBT HLT4 HS57 HR7 HB37 HB67 HBW6 HOWN6 HR5 HB45 HB35 HB14 HOWN4 HVS kn300 hn300 hgq hfew hga hd hd2 hra hj
            go_loopw [13] (fun i wr => ∃ j : Nat, j ≤ nn ∧ i = .int .i64 j ∧ (∀ k (hk : k < noise.length), k < j → noise[k].length ≤ 400) ∧ wr = w10) (fun i _ => nn - (intOf i).toNat)
            case atStart => exact ⟨0, Nat.zero_le _, rfl, fun _ _ h => absurd h (by omega), rfl⟩
            case round =>
              obtain ⟨j, hj, rfl, hall, rfl⟩ := hrel
              have HALL := Lib.hid hall
              clear hall
              by_cases hlt : j < nn
              · obtain ⟨nb, no, hnA, hpc⟩ := HNZ.out (by omega)
                have hjl : j < noise.length := by have := HNN.out; omega
                obtain ⟨A, n, cc, h1, h2, h3, h4, h5⟩ := (hpc.below HBE10.out) j hjl
                have hnl : nb < wr.heap.size := World.block_lt_of_cell? _ _ h1
                have ilt : (j : Int) < (nn : Int) := by omega
                have HL2 := Lib.hid h2
                subst hnA
                clear hpc h2 h3 h4 h5 hlt
                by_cases h400 : (n : Int) > 400
                · go_wp2_with fail
                  go_ret
                  exact ⟨rfl, HB0.out.trans (HBE10.out.mono HB0.out.size)⟩
                · have hd4 : decide ((400 : Int) < (n : Int)) = false := by simp; omega
                  have HN4 : Hid (n ≤ 400) := Lib.hid (by omega)
                  clear h400
                  go_wp2_with fail
                  go_roundw
                  case rel => exact ⟨j + 1, by omega, by go_num, fun k hk hkj => by
                    rcases Nat.lt_or_ge k j with h | h
                    · exact HALL.out k hk h
                    · obtain rfl : k = j := by omega
                      rw [HL2.out]
                      exact HN4.out, trivial⟩
                  case measure => simp [intOf]; omega
              · obtain rfl : nn = j := by omega
                have HA4 := HALL
                clear hlt hj
                have ra := row_later HA.out HBE10.out
                obtain ⟨r0, r1, r2, r3, r4, r5, r6, r7⟩ := row_eight (show wr.heap[w.heap.size + 1]? = some (.cells #[_, _, _, _, _, _, _, _] _ (0, 0)) from ra)
                have hga : w.heap.size + 1 < wr.heap.size := row_lt ra
                have HB6 := Lib.hid (bytes6_any a (hA, hn, hc) (kA, kn, kc) wr (HAI.out.below HBE10.out))
                rw [askV_eq] at HB6
                clear ra
                go_wp2_with fail
                refine HB6.out.mono ?_
                rintro e w11 ⟨A3, n3, k3, rfl, hn3, hown3, hb3⟩
                have HBE11 := Lib.hid (HBE10.out.trans (hb3.mono HBE10.out.size))
                have HM11 := Lib.hid (HM10.out.below hb3)
                have HB1011 := Lib.hid hb3.size
                have hm3 := Ak.bytes_most a
                have HB3 := Lib.hid (bytes3_any c.unit A3 n3 k3 (Ak.bytes a) hn3 (by omega) w11 (own_at hown3).2.2.2)
                obtain ⟨p0, p1, p2, p3⟩ := row_quad (row_later HC.out HBE11.out)
                clear r0 r1 r2 r3 r4 r5 r6 r7 HB6 hown3 hm3 hb3 hn3 hga
                go_wp2_with fail
                refine HB3.out.mono ?_
                rintro e w12 ⟨A4', n4, k4, rfl, hn4, hown4, hb4⟩
                have HBE12 := Lib.hid (HBE11.out.trans (hb4.mono HBE11.out.size))
                have HM12 := Lib.hid (HM11.out.below hb4)
                have HO12 : Hid (w12.ownsRow w11.heap.size 5 1 (.slice A4' n4 k4) n4 ((Ms.sent c a).map u8v)) := Lib.hid hown4
                have HN12 : Hid ((Ms.sent c a).length = n4) := Lib.hid hn4
                generalize Rtu.codeP (Ak.bytes a) = CP
                generalize Ak.codeA a = CA
                clear p0 p1 p2 p3 HB3 hn4 hown4 hb4
                have HLS : Hid (Lies u8v w12 A4' (Ms.sent c a)) := Lib.hid (own_at HO12.out).2.2.2
                have HLN : Hid (n4 ≤ k4 ∧ k4 ≤ maxLen) := Lib.hid ⟨(own_at HO12.out).1, (own_at HO12.out).2.1⟩
                have HQB : Hid (q < w11.heap.size) := Lib.hid (Nat.lt_of_lt_of_le HM10.out.lt HB1011.out)
                obtain ⟨L, hL⟩ : ∃ L, 3 * c.wait * c.tries = L := ⟨_, rfl⟩
                have hLw : 3 * c.wait ≤ 180 := by have := HW60.out; omega
                have hL9 : L ≤ 900 := by
                  rw [← hL]
                  exact Nat.mul_le_mul hLw hsm.2.2.2.2.2
                have hLI : (3 : Int) * (c.wait : Int) * (c.tries : Int) = (L : Int) := by rw [← hL]; push_cast; rfl
                have HL := Lib.hid hL
                have HL9 := Lib.hid hL9
                clear hL hL9
                go_wp2_with fail
                go_loopw [18, 19] (fun s i wr => ∃ (j k : Nat) (S : Nat → Prop) (D : Nat) (m : Mst), s = .int .i64 k ∧ i = .int .i64 j ∧ LMAt wr S q D c m ∧ (D = q ∨ w12.heap.size ≤ D) ∧ Ms.Busy c a m.st ∧ Ms.left c m.st + j ≤ L ∧ Ms.tried m.st = k ∧ Lies u8v wr A4' (Ms.sent c a) ∧ Below w0.heap.size w0 wr ∧ w12.heap.size ≤ wr.heap.size) (fun _ i _ => L - (intOf i).toNat)
                case atStart => exact ⟨0, 0, _, _, _, rfl, rfl, HM12.out, .inl rfl, ⟨rfl, by omega, by omega⟩, by rw [Ms.left_start c a hsm.2.2.2.2.1, HL.out]; omega, rfl, HLS.out, HBE12.out, Nat.le_refl _⟩
                case round =>
                  obtain ⟨j, k, S, D, m, rfl, rfl, hm, hD, hbz, hl, ht, hls, hbe, hsz⟩ := hrel
                  have hlp := hbz.left_pos
                  have ilt : (j : Int) < (L : Int) := by omega
                  obtain ⟨p0, p1, p2, p3⟩ := row_quad (row_later HC.out hbe)
                  have hcl : w.heap.size < wr.heap.size := by have := hbe.size; omega
                  have HMR := Lib.hid hm
                  have HLR := Lib.hid hls
                  have HBR := Lib.hid hbe
                  have HL9' := HL9.out
                  have hj900 : j < 900 := by omega
                  clear hm hls hbe
                  have ht5 : k ≤ 5 := by have := hbz; have := hsm; cases hms : m.st with
                    | idle => rw [hms] at hbz; exact hbz.elim
                    | wants f t a' => rw [hms] at hbz ht; have := hbz.2.2; have e : t = k := ht; omega
                    | waits f t a' b' => rw [hms] at hbz ht; have := hbz.2.2.2.1; have e : t = k := ht; omega
                  by_cases hjn : j < nn
                  · obtain ⟨nb, no, hnA, hpc⟩ := HNZ.out (by omega)
                    have hjl : j < noise.length := by have := HNN.out; omega
                    obtain ⟨A, n, cc, h1', h2, h3, h4, h5'⟩ := hpc j hjl
                    have h1 := cell_later HBR.out h1'
                    have h5 := h5'.below HBR.out (Nat.le_refl _)
                    have hfar : ∀ g o s, A = some ⟨g, o, s⟩ → 0 < noise[j].length → g ≠ q := fun g o s e h0 => by
                      obtain ⟨b, off, e2, hc2⟩ := h5' 0 h0
                      have h7 := World.block_lt_of_cell? _ _ hc2
                      rw [e] at e2
                      cases e2
                      have h8 : g < w0.heap.size := h7
                      omega
                    have hnl : nb < wr.heap.size := World.block_lt_of_cell? _ _ h1
                    have HT := Lib.hid (take8_any S q D c m A n cc noise[j] h2 h3 (by have := HA4.out j hjl (by omega); omega) wr HMR.out hfar h5)
                    subst hnA
                    have ilt2 : (j : Int) < (nn : Int) := by omega
                    clear hpc h2 h3 h4 h5 h1' h5' hfar hjn
                    go_wp2_with fail
                    refine HT.out.mono ?_
                    rintro e wc ⟨rfl, hbu, D', hD', hm'⟩
                    obtain ⟨hbz1, hl1, ht1⟩ := hbz.take noise[j]
                    rw [← hl1] at hl
                    rw [← ht1] at ht
                    have hD2 : D' = q ∨ w12.heap.size ≤ D' := by
                      rcases hD' with rfl | h
                      · exact hD
                      · exact .inr (Nat.le_trans hsz h)
                    have HLC : Hid (Lies u8v wc A4' (Ms.sent c a)) := Lib.hid (HLR.out.but hbu (fun b o s e _ hm => by
                      subst e
                      have h1 := HO12.out.lt b rfl
                      have h2 := HQB.out
                      rcases List.mem_cons.1 hm with h3 | h3
                      · omega
                      · have h3 := List.mem_singleton.1 h3
                        omega))
                    have HBC : Hid (Below w0.heap.size w0 wc) := Lib.hid (HBR.out.trans (hbu.below (fun g hg => by
                      have hs12 := HBE12.out.size
                      rcases List.mem_cons.1 hg with h3 | h3
                      · omega
                      · have h3 := List.mem_singleton.1 h3
                        omega) HBR.out.size))
                    have hszc : w12.heap.size ≤ wc.heap.size := Nat.le_trans hsz hbu.size
                    generalize Ms.take m noise[j] = m2 at *
                    have HMC := Lib.hid hm'
                    clear hbz hl1 ht1 hD hD' hsz hbu hm' HT p0 p1 p2 p3 hcl HMR HLR HBR h1 hnl ilt2
                    have hbz := hbz1
                    have htk := Ms.ticked hsm.2.2.1 hbz
                    have HX := Lib.hid (tick8_any (fun g => S g ∨ g = D') q D' c m2 wc hrc HMC.out (.inr ⟨a, hbz, HHN.out⟩))
                    obtain ⟨p0, p1, p2, p3⟩ := row_quad (row_later HC.out HBC.out)
                    have hcl : w.heap.size < wc.heap.size := by have := HBC.out.size; omega
                    generalize Ms.tick c m2 = r at htk HX
                    cases htk with
                    | on m' hb' hl' ht' =>
                      go_wp2_with fail
                      refine HX.out.mono ?_
                      rintro e vr ⟨hp, -⟩
                      obtain ⟨B, n, cc, KK, xe, yh, yk, yt, rfl, hk, hxe, hn', hc', hmx, hly, hy, hmm, hbu⟩ := LTickPost.out hp
                      obtain rfl : (0 : Int) = KK := hk
                      have hbv : Below w0.heap.size w0 vr := but_up HBC.out hbu hqw0
                      have hvs : wc.heap.size ≤ vr.heap.size := hbu.size
                      have HMM := Lib.hid hmm
                      have HBV := Lib.hid hbv
                      have HLV : Hid (Lies u8v vr A4' (Ms.sent c a)) := Lib.hid (HLC.out.but hbu (fun b o s e _ hm => by
                        subst e
                        have h1 := (HO12.out.lt b rfl).1
                        have h2 := HQB.out
                        have h3 := List.mem_singleton.1 hm
                        omega))
                      have HBA : Hid (Below vr.heap.size vr (vr.alloc (.cells #[.int .i64 0, .int .i64 xe, .slice yh.1 yh.2.1 yh.2.2, .slice yk.1 yk.2.1 yk.2.2, .slice yt.1 yt.2.1 yt.2.2] 48))) := Lib.hid ((Below.refl _ _).alloc (Nat.le_refl _) _)
                      clear p0 p1 p2 p3 HX hp hcl hc' hmx hmm hbu
                      obtain ⟨p0, p1, p2, p3⟩ := row_quad (row_later HC.out hbv)
                      have hcl : w.heap.size < vr.heap.size := by have := hbv.size; omega
                      obtain rfl : 0 = n := hn'
                      clear hly hy hxe hbv
                      go_wp2_with fail
                      go_roundw
                      case rel => exact ⟨j + 1, k, _, D', m', by go_num, by go_num, HMM.out.below HBA.out, hD2, hb', by omega, ht'.trans ht, HLV.out.below HBA.out (Nat.le_refl _), HBV.out.trans (HBA.out.mono HBV.out.size), Nat.le_trans hszc (Nat.le_trans hvs HBA.out.size)⟩
                      case measure => simp [intOf]; omega
                    | send m' hb' hl' ht' h1' =>
                      go_wp2_with fail
                      refine HX.out.mono ?_
                      rintro e vr ⟨hp, -⟩
                      obtain ⟨B, n, cc, KK, xe, yh, yk, yt, rfl, hk, hxe, hn', hc', hmx, hly, hy, hmm, hbu⟩ := LTickPost.out hp
                      obtain rfl : (0 : Int) = KK := hk
                      have hbv : Below w0.heap.size w0 vr := but_up HBC.out hbu hqw0
                      have hvs : wc.heap.size ≤ vr.heap.size := hbu.size
                      have HMM := Lib.hid hmm
                      have HBV := Lib.hid hbv
                      have HLV : Hid (Lies u8v vr A4' (Ms.sent c a)) := Lib.hid (HLC.out.but hbu (fun b o s e _ hm => by
                        subst e
                        have h1 := (HO12.out.lt b rfl).1
                        have h2 := HQB.out
                        have h3 := List.mem_singleton.1 hm
                        omega))
                      have HBA : Hid (Below vr.heap.size vr (vr.alloc (.cells #[.int .i64 0, .int .i64 xe, .slice yh.1 yh.2.1 yh.2.2, .slice yk.1 yk.2.1 yk.2.2, .slice yt.1 yt.2.1 yt.2.2] 48))) := Lib.hid ((Below.refl _ _).alloc (Nat.le_refl _) _)
                      clear p0 p1 p2 p3 HX hp hcl hc' hmx hmm hbu
                      obtain ⟨p0, p1, p2, p3⟩ := row_quad (row_later HC.out hbv)
                      have hcl : w.heap.size < vr.heap.size := by have := hbv.size; omega
                      have hn4 := HN12.out
                      obtain rfl : n = n4 := by rw [← hn', ← hn4]
                      have hn0 : decide (0 < n) = true := by have := Ms.sent_pos c HHN.out; rw [hn4] at this; simp; omega
                      obtain ⟨VA, hVA⟩ : ∃ VA, vr.alloc (.cells #[.int .i64 0, .int .i64 xe, .slice yh.1 yh.2.1 yh.2.2, .slice yk.1 yk.2.1 yk.2.2, .slice yt.1 yt.2.1 yt.2.2] 48) = VA := ⟨_, rfl⟩
                      have HBA2 := HBA
                      rw [hVA] at HBA2
                      have HSA := Lib.hid (rsame8_any B A4' n n cc k4 (Ms.sent c a) (Ms.sent c a) hn4 hn4 (by have := HLN.out; omega) VA (hly.below HBA2.out (Nat.le_refl _)) (HLV.out.below HBA2.out (Nat.le_refl _)))
                      rw [show (Ms.sent c a == Ms.sent c a) = true from beq_self_eq_true _] at HSA
                      have HVA := Lib.hid hVA
                      have hkt : decide ((c.tries : Int) < (k : Int) + 1) = false := by simp; omega
                      have HKN : Hid (n = (Ms.sent c a).length) := Lib.hid hn4.symm
                      clear hly hy hxe hbv hVA hn4 hn'
                      go_wp2_with fail
                      rw [HVA.out]
                      refine HSA.out.mono ?_
                      rintro e vz ⟨rfl, nq, rfl⟩
                      have HBZ : Hid (Below VA.heap.size VA (VA.drewN nq)) := Lib.hid (drewN_below (Below.refl _ _) nq)
                      clear p0 p1 p2 p3
                      have hbz3 := (HBV.out.trans (HBA2.out.mono HBV.out.size)).trans (HBZ.out.mono (HBV.out.trans (HBA2.out.mono HBV.out.size)).size)
                      obtain ⟨p0, p1, p2, p3⟩ := row_quad (row_later HC.out hbz3)
                      have HBZ3 := Lib.hid hbz3
                      have hcl3 : w.heap.size < (VA.drewN nq).heap.size := by have := hbz3.size; omega
                      have hxr : (vr.alloc (.cells #[.int .i64 0, .int .i64 xe, .slice yh.1 yh.2.1 yh.2.2, .slice yk.1 yk.2.1 yk.2.2, .slice yt.1 yt.2.1 yt.2.2] 48)).heap[vr.heap.size]? = _ := row_at vr _ _ vr.heap.size rfl
                      rw [HVA.out] at hxr
                      obtain ⟨⟨x0, x1, x2, x3, x4⟩, -⟩ := row_five8 (row_later hxr HBZ.out)
                      have hvz : vr.heap.size < (VA.drewN nq).heap.size := row_lt (row_later hxr HBZ.out)
                      clear hbz3 HSA hcl hxr
                      go_wp2_with fail
                      go_roundw
                      case rel => exact ⟨j + 1, k + 1, _, D', m', by go_num, by go_num, (HMM.out.below HBA2.out).below HBZ.out, hD2, hb', by omega, by omega, (HLV.out.below HBA2.out (Nat.le_refl _)).below HBZ.out (Nat.le_refl _), HBZ3.out, Nat.le_trans hszc (Nat.le_trans hvs (Nat.le_trans HBA2.out.size HBZ.out.size))⟩
                      case measure => simp [intOf]; omega
                    | done q' x hx' =>
                      go_wp2_with fail
                      refine HX.out.mono ?_
                      rintro e vr ⟨hp, -⟩
                      obtain ⟨B, n, cc, KK, xe, yh, yk, yt, rfl, hk, hxe, hn', hc', hmx, hly, hy, hmm, hbu⟩ := LTickPost.out hp
                      obtain rfl : (1 : Int) = KK := hk
                      have hbv : Below w0.heap.size w0 vr := but_up HBC.out hbu hqw0
                      have hvs : wc.heap.size ≤ vr.heap.size := hbu.size
                      have HMM := Lib.hid hmm
                      have HBV := Lib.hid hbv
                      have HLV : Hid (Lies u8v vr A4' (Ms.sent c a)) := Lib.hid (HLC.out.but hbu (fun b o s e _ hm => by
                        subst e
                        have h1 := (HO12.out.lt b rfl).1
                        have h2 := HQB.out
                        have h3 := List.mem_singleton.1 hm
                        omega))
                      have HBA : Hid (Below vr.heap.size vr (vr.alloc (.cells #[.int .i64 1, .int .i64 xe, .slice yh.1 yh.2.1 yh.2.2, .slice yk.1 yk.2.1 yk.2.2, .slice yt.1 yt.2.1 yt.2.2] 48))) := Lib.hid ((Below.refl _ _).alloc (Nat.le_refl _) _)
                      clear p0 p1 p2 p3 HX hp hcl hc' hmx hmm hbu
                      obtain ⟨p0, p1, p2, p3⟩ := row_quad (row_later HC.out hbv)
                      have hcl : w.heap.size < vr.heap.size := by have := hbv.size; omega
                      obtain rfl : 0 = n := hn'
                      clear hbv
                      obtain ⟨VA, hVA⟩ : ∃ VA, vr.alloc (.cells #[.int .i64 1, .int .i64 xe, .slice yh.1 yh.2.1 yh.2.2, .slice yk.1 yk.2.1 yk.2.2, .slice yt.1 yt.2.1 yt.2.2] 48) = VA := ⟨_, rfl⟩
                      have HBA2 := HBA
                      have hxr : (vr.alloc (.cells #[.int .i64 1, .int .i64 xe, .slice yh.1 yh.2.1 yh.2.2, .slice yk.1 yk.2.1 yk.2.2, .slice yt.1 yt.2.1 yt.2.2] 48)).heap[vr.heap.size]? = _ := row_at vr _ _ vr.heap.size rfl
                      rw [hVA] at HBA2 hxr
                      have HXR := Lib.hid hxr
                      have HYA := Lib.hid hy
                      have HT2 := Lib.hid (tick8_any _ q D' c ⟨q', .idle⟩ VA hrc (HMM.out.below HBA2.out) (.inl rfl))
                      rw [show Ms.tick c ⟨q', .idle⟩ = (⟨min (q' + 1) c.gap, .idle⟩, [], .none) from rfl] at HT2
                      have HVA := Lib.hid hVA
                      have hvv : vr.heap.size < VA.heap.size := row_lt hxr
                      have HXE : Hid (x.exc = xe) := Lib.hid hxe
                      clear hly hy hxe hVA hxr
                      go_wp2_with fail
                      rw [HVA.out]
                      refine HT2.out.mono ?_
                      rintro e vs ⟨hp2, hk2⟩
                      obtain ⟨B2, n2, cc2, KK2, xe2, zh, zk, zt, rfl, hk2', -, -, -, -, -, hz2, hmm2, hbu2⟩ := LTickPost.out hp2
                      obtain rfl : (0 : Int) = KK2 := hk2'
                      have HBZ := Lib.hid (but_up (HBV.out.trans (HBA2.out.mono HBV.out.size)) hbu2 hqw0)
                      have HKV := Lib.hid (hk2 trivial)
                      have HM2 := Lib.hid hmm2
                      have HZ2 := Lib.hid hz2
                      have hqv : vr.heap.size ∉ [q] := by have := HMM.out.lt; rw [List.mem_singleton]; omega
                      have xr2 := row_but HXR.out hbu2 hqv
                      clear hp2 hk2 hz2 hmm2 HT2 p0 p1 p2 p3
                      obtain ⟨p0, p1, p2, p3⟩ := row_quad (row_later HC.out HBZ.out)
                      obtain ⟨⟨x0, x1, x2, x3, x4⟩, -⟩ := row_five8 xr2
                      have hcl : w.heap.size < vs.heap.size := by have := HBZ.out.size; omega
                      have hvz : vr.heap.size < vs.heap.size := row_lt xr2
                      have XR2 := Lib.hid xr2
                      clear xr2
                      go_wp2_with fail
                      obtain ⟨VZ, hVZ⟩ : ∃ VZ, vs.alloc (.cells #[.int .i64 0, .int .i64 xe2, .slice zh.1 zh.2.1 zh.2.2, .slice zk.1 zk.2.1 zk.2.2, .slice zt.1 zt.2.1 zt.2.2] 48) = VZ := ⟨_, rfl⟩
                      have hzr : (vs.alloc (.cells #[.int .i64 0, .int .i64 xe2, .slice zh.1 zh.2.1 zh.2.2, .slice zk.1 zk.2.1 zk.2.2, .slice zt.1 zt.2.1 zt.2.2] 48)).heap[vs.heap.size]? = _ := row_at vs _ _ vs.heap.size rfl
                      have hbz2 : Below vs.heap.size vs (vs.alloc (.cells #[.int .i64 0, .int .i64 xe2, .slice zh.1 zh.2.1 zh.2.2, .slice zk.1 zk.2.1 zk.2.2, .slice zt.1 zt.2.1 zt.2.2] 48)) := (Below.refl _ _).alloc (Nat.le_refl _) _
                      rw [hVZ] at hzr hbz2 ⊢
                      refine (lbusy8 VZ (HM2.out.below hbz2)).mono ?_
                      rintro e w' ⟨rfl, rfl⟩
                      rename World => VZ
                      rw [show (Ms.code (⟨min (q' + 1) c.gap, .idle⟩ : Mst).st != 0) = false from rfl]
                      have HBZ2 := Lib.hid (HBZ.out.trans (hbz2.mono HBZ.out.size))
                      clear p0 p1 p2 p3 x0 x1 x2 x3 x4 hvz hVZ
                      obtain ⟨p0, p1, p2, p3⟩ := row_quad (row_later HC.out HBZ2.out)
                      obtain ⟨⟨x0, x1, x2, x3, x4⟩, -⟩ := row_five8 (row_later XR2.out hbz2)
                      obtain ⟨⟨z0, z1, z2, z3, z4⟩, -⟩ := row_five8 hzr
                      have hvz : vr.heap.size < VZ.heap.size := row_lt (row_later XR2.out hbz2)
                      have hvz2 : vs.heap.size < VZ.heap.size := row_lt hzr
                      have hcl3 : w.heap.size < VZ.heap.size := by have := HBZ2.out.size; omega
                      clear hzr
                      have hya : AnsIn VZ x yh yk yt := ((HYA.out.below HBA2.out).kept HKV.out).below hbz2
                      have ra := row_later HA.out HBZ2.out
                      obtain ⟨r0, r1, r2, r3, r4, r5, r6, r7⟩ := row_eight (show VZ.heap[w.heap.size + 1]? = some (.cells #[_, _, _, _, _, _, _, _] _ (0, 0)) from ra)
                      have hga : w.heap.size + 1 < VZ.heap.size := row_lt ra
                      have HRG := Lib.hid (right7_any a x (hA, hn, hc) (kA, kn, kc) yh yk yt VZ (HAI.out.below HBZ2.out) hya (by have h1 := An.right_texts8 hx'; have h2 := hya.tn; omega))
                      rw [hx', askV_eq, ansV_eq] at HRG
                      rw [HXE.out] at HRG
                      have XR3 := Lib.hid (row_later XR2.out hbz2)
                      clear hya ra hbz2
                      go_wp2_with fail
                      refine HRG.out.mono ?_
                      rintro e wq ⟨rfl, hb9⟩
                      have HB9 := Lib.hid (HBZ2.out.trans (hb9.mono HBZ2.out.size))
                      clear p0 p1 p2 p3 x0 x1 x2 x3 x4 z0 z1 z2 z3 z4 r0 r1 r2 r3 r4 r5 r6 r7 HRG hvz hvz2 hcl3 hga
                      obtain ⟨⟨x0, x1, x2, x3, x4⟩, -⟩ := row_five8 (row_later XR3.out hb9)
                      obtain ⟨p0, p1, p2, p3⟩ := row_quad (row_later HC.out HB9.out)
                      have hvz : vr.heap.size < wq.heap.size := row_lt (row_later XR3.out hb9)
                      have hcl3 : w.heap.size < wq.heap.size := by have := HB9.out.size; omega
                      clear hb9
                      go_wp2_with fail
                      go_ret
                      exact ⟨rfl, HB0.out.trans (HB9.out.mono HB0.out.size)⟩
                    | silent q' ht' =>
                      go_wp2_with fail
                      refine HX.out.mono ?_
                      rintro e vr ⟨hp, -⟩
                      obtain ⟨B, n, cc, KK, xe, yh, yk, yt, rfl, hk, hxe, hn', hc', hmx, hly, hy, hmm, hbu⟩ := LTickPost.out hp
                      obtain rfl : (2 : Int) = KK := hk
                      have hbv : Below w0.heap.size w0 vr := but_up HBC.out hbu hqw0
                      have hvs : wc.heap.size ≤ vr.heap.size := hbu.size
                      have HMM := Lib.hid hmm
                      have HBV := Lib.hid hbv
                      have HLV : Hid (Lies u8v vr A4' (Ms.sent c a)) := Lib.hid (HLC.out.but hbu (fun b o s e _ hm => by
                        subst e
                        have h1 := (HO12.out.lt b rfl).1
                        have h2 := HQB.out
                        have h3 := List.mem_singleton.1 hm
                        omega))
                      have HBA : Hid (Below vr.heap.size vr (vr.alloc (.cells #[.int .i64 2, .int .i64 xe, .slice yh.1 yh.2.1 yh.2.2, .slice yk.1 yk.2.1 yk.2.2, .slice yt.1 yt.2.1 yt.2.2] 48))) := Lib.hid ((Below.refl _ _).alloc (Nat.le_refl _) _)
                      clear p0 p1 p2 p3 HX hp hcl hc' hmx hmm hbu
                      obtain ⟨p0, p1, p2, p3⟩ := row_quad (row_later HC.out hbv)
                      have hcl : w.heap.size < vr.heap.size := by have := hbv.size; omega
                      obtain rfl : 0 = n := hn'
                      clear hbv
                      obtain ⟨VA, hVA⟩ : ∃ VA, vr.alloc (.cells #[.int .i64 2, .int .i64 xe, .slice yh.1 yh.2.1 yh.2.2, .slice yk.1 yk.2.1 yk.2.2, .slice yt.1 yt.2.1 yt.2.2] 48) = VA := ⟨_, rfl⟩
                      have HBA2 := HBA
                      have hxr : (vr.alloc (.cells #[.int .i64 2, .int .i64 xe, .slice yh.1 yh.2.1 yh.2.2, .slice yk.1 yk.2.1 yk.2.2, .slice yt.1 yt.2.1 yt.2.2] 48)).heap[vr.heap.size]? = _ := row_at vr _ _ vr.heap.size rfl
                      rw [hVA] at HBA2 hxr
                      have HXR := Lib.hid hxr
                      have HYA := Lib.hid hy
                      have HT2 := Lib.hid (tick8_any _ q D' c ⟨q', .idle⟩ VA hrc (HMM.out.below HBA2.out) (.inl rfl))
                      rw [show Ms.tick c ⟨q', .idle⟩ = (⟨min (q' + 1) c.gap, .idle⟩, [], .none) from rfl] at HT2
                      have HVA := Lib.hid hVA
                      have hvv : vr.heap.size < VA.heap.size := row_lt hxr
                      clear hly hy hxe hVA hxr
                      go_wp2_with fail
                      rw [HVA.out]
                      refine HT2.out.mono ?_
                      rintro e vs ⟨hp2, hk2⟩
                      obtain ⟨B2, n2, cc2, KK2, xe2, zh, zk, zt, rfl, hk2', -, -, -, -, -, hz2, hmm2, hbu2⟩ := LTickPost.out hp2
                      obtain rfl : (0 : Int) = KK2 := hk2'
                      have HBZ := Lib.hid (but_up (HBV.out.trans (HBA2.out.mono HBV.out.size)) hbu2 hqw0)
                      have HKV := Lib.hid (hk2 trivial)
                      have HM2 := Lib.hid hmm2
                      have HZ2 := Lib.hid hz2
                      have hqv : vr.heap.size ∉ [q] := by have := HMM.out.lt; rw [List.mem_singleton]; omega
                      have xr2 := row_but HXR.out hbu2 hqv
                      clear hp2 hk2 hz2 hmm2 HT2 p0 p1 p2 p3
                      obtain ⟨p0, p1, p2, p3⟩ := row_quad (row_later HC.out HBZ.out)
                      obtain ⟨⟨x0, x1, x2, x3, x4⟩, -⟩ := row_five8 xr2
                      have hcl : w.heap.size < vs.heap.size := by have := HBZ.out.size; omega
                      have hvz : vr.heap.size < vs.heap.size := row_lt xr2
                      have XR2 := Lib.hid xr2
                      clear xr2
                      go_wp2_with fail
                      obtain ⟨VZ, hVZ⟩ : ∃ VZ, vs.alloc (.cells #[.int .i64 0, .int .i64 xe2, .slice zh.1 zh.2.1 zh.2.2, .slice zk.1 zk.2.1 zk.2.2, .slice zt.1 zt.2.1 zt.2.2] 48) = VZ := ⟨_, rfl⟩
                      have hzr : (vs.alloc (.cells #[.int .i64 0, .int .i64 xe2, .slice zh.1 zh.2.1 zh.2.2, .slice zk.1 zk.2.1 zk.2.2, .slice zt.1 zt.2.1 zt.2.2] 48)).heap[vs.heap.size]? = _ := row_at vs _ _ vs.heap.size rfl
                      have hbz2 : Below vs.heap.size vs (vs.alloc (.cells #[.int .i64 0, .int .i64 xe2, .slice zh.1 zh.2.1 zh.2.2, .slice zk.1 zk.2.1 zk.2.2, .slice zt.1 zt.2.1 zt.2.2] 48)) := (Below.refl _ _).alloc (Nat.le_refl _) _
                      rw [hVZ] at hzr hbz2 ⊢
                      refine (lbusy8 VZ (HM2.out.below hbz2)).mono ?_
                      rintro e w' ⟨rfl, rfl⟩
                      rename World => VZ
                      rw [show (Ms.code (⟨min (q' + 1) c.gap, .idle⟩ : Mst).st != 0) = false from rfl]
                      have HBZ2 := Lib.hid (HBZ.out.trans (hbz2.mono HBZ.out.size))
                      clear p0 p1 p2 p3 x0 x1 x2 x3 x4 hvz hVZ
                      obtain ⟨p0, p1, p2, p3⟩ := row_quad (row_later HC.out HBZ2.out)
                      obtain ⟨⟨x0, x1, x2, x3, x4⟩, -⟩ := row_five8 (row_later XR2.out hbz2)
                      obtain ⟨⟨z0, z1, z2, z3, z4⟩, -⟩ := row_five8 hzr
                      have hvz : vr.heap.size < VZ.heap.size := row_lt (row_later XR2.out hbz2)
                      have hvz2 : vs.heap.size < VZ.heap.size := row_lt hzr
                      have hcl3 : w.heap.size < VZ.heap.size := by have := HBZ2.out.size; omega
                      clear hzr
                      have hkt : ((k : Int) == (c.tries : Int)) = true := by rw [beq_iff_eq]; omega
                      clear hbz2
                      go_wp2_with fail
                      go_ret
                      exact ⟨rfl, HB0.out.trans (HBZ2.out.mono HB0.out.size)⟩
                    | garbled q' ht' =>
                      go_wp2_with fail
                      refine HX.out.mono ?_
                      rintro e vr ⟨hp, -⟩
                      obtain ⟨B, n, cc, KK, xe, yh, yk, yt, rfl, hk, hxe, hn', hc', hmx, hly, hy, hmm, hbu⟩ := LTickPost.out hp
                      obtain rfl : (3 : Int) = KK := hk
                      have hbv : Below w0.heap.size w0 vr := but_up HBC.out hbu hqw0
                      have hvs : wc.heap.size ≤ vr.heap.size := hbu.size
                      have HMM := Lib.hid hmm
                      have HBV := Lib.hid hbv
                      have HLV : Hid (Lies u8v vr A4' (Ms.sent c a)) := Lib.hid (HLC.out.but hbu (fun b o s e _ hm => by
                        subst e
                        have h1 := (HO12.out.lt b rfl).1
                        have h2 := HQB.out
                        have h3 := List.mem_singleton.1 hm
                        omega))
                      have HBA : Hid (Below vr.heap.size vr (vr.alloc (.cells #[.int .i64 3, .int .i64 xe, .slice yh.1 yh.2.1 yh.2.2, .slice yk.1 yk.2.1 yk.2.2, .slice yt.1 yt.2.1 yt.2.2] 48))) := Lib.hid ((Below.refl _ _).alloc (Nat.le_refl _) _)
                      clear p0 p1 p2 p3 HX hp hcl hc' hmx hmm hbu
                      obtain ⟨p0, p1, p2, p3⟩ := row_quad (row_later HC.out hbv)
                      have hcl : w.heap.size < vr.heap.size := by have := hbv.size; omega
                      obtain rfl : 0 = n := hn'
                      clear hbv
                      obtain ⟨VA, hVA⟩ : ∃ VA, vr.alloc (.cells #[.int .i64 3, .int .i64 xe, .slice yh.1 yh.2.1 yh.2.2, .slice yk.1 yk.2.1 yk.2.2, .slice yt.1 yt.2.1 yt.2.2] 48) = VA := ⟨_, rfl⟩
                      have HBA2 := HBA
                      have hxr : (vr.alloc (.cells #[.int .i64 3, .int .i64 xe, .slice yh.1 yh.2.1 yh.2.2, .slice yk.1 yk.2.1 yk.2.2, .slice yt.1 yt.2.1 yt.2.2] 48)).heap[vr.heap.size]? = _ := row_at vr _ _ vr.heap.size rfl
                      rw [hVA] at HBA2 hxr
                      have HXR := Lib.hid hxr
                      have HYA := Lib.hid hy
                      have HT2 := Lib.hid (tick8_any _ q D' c ⟨q', .idle⟩ VA hrc (HMM.out.below HBA2.out) (.inl rfl))
                      rw [show Ms.tick c ⟨q', .idle⟩ = (⟨min (q' + 1) c.gap, .idle⟩, [], .none) from rfl] at HT2
                      have HVA := Lib.hid hVA
                      have hvv : vr.heap.size < VA.heap.size := row_lt hxr
                      clear hly hy hxe hVA hxr
                      go_wp2_with fail
                      rw [HVA.out]
                      refine HT2.out.mono ?_
                      rintro e vs ⟨hp2, hk2⟩
                      obtain ⟨B2, n2, cc2, KK2, xe2, zh, zk, zt, rfl, hk2', -, -, -, -, -, hz2, hmm2, hbu2⟩ := LTickPost.out hp2
                      obtain rfl : (0 : Int) = KK2 := hk2'
                      have HBZ := Lib.hid (but_up (HBV.out.trans (HBA2.out.mono HBV.out.size)) hbu2 hqw0)
                      have HKV := Lib.hid (hk2 trivial)
                      have HM2 := Lib.hid hmm2
                      have HZ2 := Lib.hid hz2
                      have hqv : vr.heap.size ∉ [q] := by have := HMM.out.lt; rw [List.mem_singleton]; omega
                      have xr2 := row_but HXR.out hbu2 hqv
                      clear hp2 hk2 hz2 hmm2 HT2 p0 p1 p2 p3
                      obtain ⟨p0, p1, p2, p3⟩ := row_quad (row_later HC.out HBZ.out)
                      obtain ⟨⟨x0, x1, x2, x3, x4⟩, -⟩ := row_five8 xr2
                      have hcl : w.heap.size < vs.heap.size := by have := HBZ.out.size; omega
                      have hvz : vr.heap.size < vs.heap.size := row_lt xr2
                      have XR2 := Lib.hid xr2
                      clear xr2
                      go_wp2_with fail
                      obtain ⟨VZ, hVZ⟩ : ∃ VZ, vs.alloc (.cells #[.int .i64 0, .int .i64 xe2, .slice zh.1 zh.2.1 zh.2.2, .slice zk.1 zk.2.1 zk.2.2, .slice zt.1 zt.2.1 zt.2.2] 48) = VZ := ⟨_, rfl⟩
                      have hzr : (vs.alloc (.cells #[.int .i64 0, .int .i64 xe2, .slice zh.1 zh.2.1 zh.2.2, .slice zk.1 zk.2.1 zk.2.2, .slice zt.1 zt.2.1 zt.2.2] 48)).heap[vs.heap.size]? = _ := row_at vs _ _ vs.heap.size rfl
                      have hbz2 : Below vs.heap.size vs (vs.alloc (.cells #[.int .i64 0, .int .i64 xe2, .slice zh.1 zh.2.1 zh.2.2, .slice zk.1 zk.2.1 zk.2.2, .slice zt.1 zt.2.1 zt.2.2] 48)) := (Below.refl _ _).alloc (Nat.le_refl _) _
                      rw [hVZ] at hzr hbz2 ⊢
                      refine (lbusy8 VZ (HM2.out.below hbz2)).mono ?_
                      rintro e w' ⟨rfl, rfl⟩
                      rename World => VZ
                      rw [show (Ms.code (⟨min (q' + 1) c.gap, .idle⟩ : Mst).st != 0) = false from rfl]
                      have HBZ2 := Lib.hid (HBZ.out.trans (hbz2.mono HBZ.out.size))
                      clear p0 p1 p2 p3 x0 x1 x2 x3 x4 hvz hVZ
                      obtain ⟨p0, p1, p2, p3⟩ := row_quad (row_later HC.out HBZ2.out)
                      obtain ⟨⟨x0, x1, x2, x3, x4⟩, -⟩ := row_five8 (row_later XR2.out hbz2)
                      obtain ⟨⟨z0, z1, z2, z3, z4⟩, -⟩ := row_five8 hzr
                      have hvz : vr.heap.size < VZ.heap.size := row_lt (row_later XR2.out hbz2)
                      have hvz2 : vs.heap.size < VZ.heap.size := row_lt hzr
                      have hcl3 : w.heap.size < VZ.heap.size := by have := HBZ2.out.size; omega
                      clear hzr
                      have hkt : ((k : Int) == (c.tries : Int)) = true := by rw [beq_iff_eq]; omega
                      clear hbz2
                      go_wp2_with fail
                      go_ret
                      exact ⟨rfl, HB0.out.trans (HBZ2.out.mono HB0.out.size)⟩
                  · have jn1 : decide ((j : Int) < (nn : Int)) = false := by simp; omega
                    have jn2 : decide (j < nn) = false := by simp; omega
                    have jn3 : ¬ ((j : Int) < (nn : Int)) := by omega
                    have HMC := HMR
                    have HLC := HLR
                    have HBC := HBR
                    have hszc := hsz
                    clear hjn HMR HLR HBR hcl p0 p1 p2 p3
                    have htk := Ms.ticked hsm.2.2.1 hbz
                    have HX := Lib.hid (tick8_any S q D c m wr hrc HMC.out (.inr ⟨a, hbz, HHN.out⟩))
                    obtain ⟨p0, p1, p2, p3⟩ := row_quad (row_later HC.out HBC.out)
                    have hcl : w.heap.size < wr.heap.size := by have := HBC.out.size; omega
                    generalize Ms.tick c m = r at htk HX
                    cases htk with
                    | on m' hb' hl' ht' =>
                      go_wp2_with fail
                      refine HX.out.mono ?_
                      rintro e vr ⟨hp, -⟩
                      obtain ⟨B, n, cc, KK, xe, yh, yk, yt, rfl, hk, hxe, hn', hc', hmx, hly, hy, hmm, hbu⟩ := LTickPost.out hp
                      obtain rfl : (0 : Int) = KK := hk
                      have hbv : Below w0.heap.size w0 vr := but_up HBC.out hbu hqw0
                      have hvs : wr.heap.size ≤ vr.heap.size := hbu.size
                      have HMM := Lib.hid hmm
                      have HBV := Lib.hid hbv
                      have HLV : Hid (Lies u8v vr A4' (Ms.sent c a)) := Lib.hid (HLC.out.but hbu (fun b o s e _ hm => by
                        subst e
                        have h1 := (HO12.out.lt b rfl).1
                        have h2 := HQB.out
                        have h3 := List.mem_singleton.1 hm
                        omega))
                      have HBA : Hid (Below vr.heap.size vr (vr.alloc (.cells #[.int .i64 0, .int .i64 xe, .slice yh.1 yh.2.1 yh.2.2, .slice yk.1 yk.2.1 yk.2.2, .slice yt.1 yt.2.1 yt.2.2] 48))) := Lib.hid ((Below.refl _ _).alloc (Nat.le_refl _) _)
                      clear p0 p1 p2 p3 HX hp hcl hc' hmx hmm hbu
                      obtain ⟨p0, p1, p2, p3⟩ := row_quad (row_later HC.out hbv)
                      have hcl : w.heap.size < vr.heap.size := by have := hbv.size; omega
                      obtain rfl : 0 = n := hn'
                      clear hly hy hxe hbv
                      go_wp2_with fail
                      go_roundw
                      case rel => exact ⟨j + 1, k, S, D, m', by go_num, by go_num, HMM.out.below HBA.out, hD, hb', by omega, ht'.trans ht, HLV.out.below HBA.out (Nat.le_refl _), HBV.out.trans (HBA.out.mono HBV.out.size), Nat.le_trans hszc (Nat.le_trans hvs HBA.out.size)⟩
                      case measure => simp [intOf]; omega
                    | send m' hb' hl' ht' h1' =>
                      go_wp2_with fail
                      refine HX.out.mono ?_
                      rintro e vr ⟨hp, -⟩
                      obtain ⟨B, n, cc, KK, xe, yh, yk, yt, rfl, hk, hxe, hn', hc', hmx, hly, hy, hmm, hbu⟩ := LTickPost.out hp
                      obtain rfl : (0 : Int) = KK := hk
                      have hbv : Below w0.heap.size w0 vr := but_up HBC.out hbu hqw0
                      have hvs : wr.heap.size ≤ vr.heap.size := hbu.size
                      have HMM := Lib.hid hmm
                      have HBV := Lib.hid hbv
                      have HLV : Hid (Lies u8v vr A4' (Ms.sent c a)) := Lib.hid (HLC.out.but hbu (fun b o s e _ hm => by
                        subst e
                        have h1 := (HO12.out.lt b rfl).1
                        have h2 := HQB.out
                        have h3 := List.mem_singleton.1 hm
                        omega))
                      have HBA : Hid (Below vr.heap.size vr (vr.alloc (.cells #[.int .i64 0, .int .i64 xe, .slice yh.1 yh.2.1 yh.2.2, .slice yk.1 yk.2.1 yk.2.2, .slice yt.1 yt.2.1 yt.2.2] 48))) := Lib.hid ((Below.refl _ _).alloc (Nat.le_refl _) _)
                      clear p0 p1 p2 p3 HX hp hcl hc' hmx hmm hbu
                      obtain ⟨p0, p1, p2, p3⟩ := row_quad (row_later HC.out hbv)
                      have hcl : w.heap.size < vr.heap.size := by have := hbv.size; omega
                      have hn4 := HN12.out
                      obtain rfl : n = n4 := by rw [← hn', ← hn4]
                      have hn0 : decide (0 < n) = true := by have := Ms.sent_pos c HHN.out; rw [hn4] at this; simp; omega
                      obtain ⟨VA, hVA⟩ : ∃ VA, vr.alloc (.cells #[.int .i64 0, .int .i64 xe, .slice yh.1 yh.2.1 yh.2.2, .slice yk.1 yk.2.1 yk.2.2, .slice yt.1 yt.2.1 yt.2.2] 48) = VA := ⟨_, rfl⟩
                      have HBA2 := HBA
                      rw [hVA] at HBA2
                      have HSA := Lib.hid (rsame8_any B A4' n n cc k4 (Ms.sent c a) (Ms.sent c a) hn4 hn4 (by have := HLN.out; omega) VA (hly.below HBA2.out (Nat.le_refl _)) (HLV.out.below HBA2.out (Nat.le_refl _)))
                      rw [show (Ms.sent c a == Ms.sent c a) = true from beq_self_eq_true _] at HSA
                      have HVA := Lib.hid hVA
                      have hkt : decide ((c.tries : Int) < (k : Int) + 1) = false := by simp; omega
                      have HKN : Hid (n = (Ms.sent c a).length) := Lib.hid hn4.symm
                      clear hly hy hxe hbv hVA hn4 hn'
                      go_wp2_with fail
                      rw [HVA.out]
                      refine HSA.out.mono ?_
                      rintro e vz ⟨rfl, nq, rfl⟩
                      have HBZ : Hid (Below VA.heap.size VA (VA.drewN nq)) := Lib.hid (drewN_below (Below.refl _ _) nq)
                      clear p0 p1 p2 p3
                      have hbz3 := (HBV.out.trans (HBA2.out.mono HBV.out.size)).trans (HBZ.out.mono (HBV.out.trans (HBA2.out.mono HBV.out.size)).size)
                      obtain ⟨p0, p1, p2, p3⟩ := row_quad (row_later HC.out hbz3)
                      have HBZ3 := Lib.hid hbz3
                      have hcl3 : w.heap.size < (VA.drewN nq).heap.size := by have := hbz3.size; omega
                      have hxr : (vr.alloc (.cells #[.int .i64 0, .int .i64 xe, .slice yh.1 yh.2.1 yh.2.2, .slice yk.1 yk.2.1 yk.2.2, .slice yt.1 yt.2.1 yt.2.2] 48)).heap[vr.heap.size]? = _ := row_at vr _ _ vr.heap.size rfl
                      rw [HVA.out] at hxr
                      obtain ⟨⟨x0, x1, x2, x3, x4⟩, -⟩ := row_five8 (row_later hxr HBZ.out)
                      have hvz : vr.heap.size < (VA.drewN nq).heap.size := row_lt (row_later hxr HBZ.out)
                      clear hbz3 HSA hcl hxr
                      go_wp2_with fail
                      go_roundw
                      case rel => exact ⟨j + 1, k + 1, S, D, m', by go_num, by go_num, (HMM.out.below HBA2.out).below HBZ.out, hD, hb', by omega, by omega, (HLV.out.below HBA2.out (Nat.le_refl _)).below HBZ.out (Nat.le_refl _), HBZ3.out, Nat.le_trans hszc (Nat.le_trans hvs (Nat.le_trans HBA2.out.size HBZ.out.size))⟩
                      case measure => simp [intOf]; omega
                    | done q' x hx' =>
                      go_wp2_with fail
                      refine HX.out.mono ?_
                      rintro e vr ⟨hp, -⟩
                      obtain ⟨B, n, cc, KK, xe, yh, yk, yt, rfl, hk, hxe, hn', hc', hmx, hly, hy, hmm, hbu⟩ := LTickPost.out hp
                      obtain rfl : (1 : Int) = KK := hk
                      have hbv : Below w0.heap.size w0 vr := but_up HBC.out hbu hqw0
                      have hvs : wr.heap.size ≤ vr.heap.size := hbu.size
                      have HMM := Lib.hid hmm
                      have HBV := Lib.hid hbv
                      have HLV : Hid (Lies u8v vr A4' (Ms.sent c a)) := Lib.hid (HLC.out.but hbu (fun b o s e _ hm => by
                        subst e
                        have h1 := (HO12.out.lt b rfl).1
                        have h2 := HQB.out
                        have h3 := List.mem_singleton.1 hm
                        omega))
                      have HBA : Hid (Below vr.heap.size vr (vr.alloc (.cells #[.int .i64 1, .int .i64 xe, .slice yh.1 yh.2.1 yh.2.2, .slice yk.1 yk.2.1 yk.2.2, .slice yt.1 yt.2.1 yt.2.2] 48))) := Lib.hid ((Below.refl _ _).alloc (Nat.le_refl _) _)
                      clear p0 p1 p2 p3 HX hp hcl hc' hmx hmm hbu
                      obtain ⟨p0, p1, p2, p3⟩ := row_quad (row_later HC.out hbv)
                      have hcl : w.heap.size < vr.heap.size := by have := hbv.size; omega
                      obtain rfl : 0 = n := hn'
                      clear hbv
                      obtain ⟨VA, hVA⟩ : ∃ VA, vr.alloc (.cells #[.int .i64 1, .int .i64 xe, .slice yh.1 yh.2.1 yh.2.2, .slice yk.1 yk.2.1 yk.2.2, .slice yt.1 yt.2.1 yt.2.2] 48) = VA := ⟨_, rfl⟩
                      have HBA2 := HBA
                      have hxr : (vr.alloc (.cells #[.int .i64 1, .int .i64 xe, .slice yh.1 yh.2.1 yh.2.2, .slice yk.1 yk.2.1 yk.2.2, .slice yt.1 yt.2.1 yt.2.2] 48)).heap[vr.heap.size]? = _ := row_at vr _ _ vr.heap.size rfl
                      rw [hVA] at HBA2 hxr
                      have HXR := Lib.hid hxr
                      have HYA := Lib.hid hy
                      have HT2 := Lib.hid (tick8_any S q D c ⟨q', .idle⟩ VA hrc (HMM.out.below HBA2.out) (.inl rfl))
                      rw [show Ms.tick c ⟨q', .idle⟩ = (⟨min (q' + 1) c.gap, .idle⟩, [], .none) from rfl] at HT2
                      have HVA := Lib.hid hVA
                      have hvv : vr.heap.size < VA.heap.size := row_lt hxr
                      have HXE : Hid (x.exc = xe) := Lib.hid hxe
                      clear hly hy hxe hVA hxr
                      go_wp2_with fail
                      rw [HVA.out]
                      refine HT2.out.mono ?_
                      rintro e vs ⟨hp2, hk2⟩
                      obtain ⟨B2, n2, cc2, KK2, xe2, zh, zk, zt, rfl, hk2', -, -, -, -, -, hz2, hmm2, hbu2⟩ := LTickPost.out hp2
                      obtain rfl : (0 : Int) = KK2 := hk2'
                      have HBZ := Lib.hid (but_up (HBV.out.trans (HBA2.out.mono HBV.out.size)) hbu2 hqw0)
                      have HKV := Lib.hid (hk2 trivial)
                      have HM2 := Lib.hid hmm2
                      have HZ2 := Lib.hid hz2
                      have hqv : vr.heap.size ∉ [q] := by have := HMM.out.lt; rw [List.mem_singleton]; omega
                      have xr2 := row_but HXR.out hbu2 hqv
                      clear hp2 hk2 hz2 hmm2 HT2 p0 p1 p2 p3
                      obtain ⟨p0, p1, p2, p3⟩ := row_quad (row_later HC.out HBZ.out)
                      obtain ⟨⟨x0, x1, x2, x3, x4⟩, -⟩ := row_five8 xr2
                      have hcl : w.heap.size < vs.heap.size := by have := HBZ.out.size; omega
                      have hvz : vr.heap.size < vs.heap.size := row_lt xr2
                      have XR2 := Lib.hid xr2
                      clear xr2
                      go_wp2_with fail
                      obtain ⟨VZ, hVZ⟩ : ∃ VZ, vs.alloc (.cells #[.int .i64 0, .int .i64 xe2, .slice zh.1 zh.2.1 zh.2.2, .slice zk.1 zk.2.1 zk.2.2, .slice zt.1 zt.2.1 zt.2.2] 48) = VZ := ⟨_, rfl⟩
                      have hzr : (vs.alloc (.cells #[.int .i64 0, .int .i64 xe2, .slice zh.1 zh.2.1 zh.2.2, .slice zk.1 zk.2.1 zk.2.2, .slice zt.1 zt.2.1 zt.2.2] 48)).heap[vs.heap.size]? = _ := row_at vs _ _ vs.heap.size rfl
                      have hbz2 : Below vs.heap.size vs (vs.alloc (.cells #[.int .i64 0, .int .i64 xe2, .slice zh.1 zh.2.1 zh.2.2, .slice zk.1 zk.2.1 zk.2.2, .slice zt.1 zt.2.1 zt.2.2] 48)) := (Below.refl _ _).alloc (Nat.le_refl _) _
                      rw [hVZ] at hzr hbz2 ⊢
                      refine (lbusy8 VZ (HM2.out.below hbz2)).mono ?_
                      rintro e w' ⟨rfl, rfl⟩
                      rename World => VZ
                      rw [show (Ms.code (⟨min (q' + 1) c.gap, .idle⟩ : Mst).st != 0) = false from rfl]
                      have HBZ2 := Lib.hid (HBZ.out.trans (hbz2.mono HBZ.out.size))
                      clear p0 p1 p2 p3 x0 x1 x2 x3 x4 hvz hVZ
                      obtain ⟨p0, p1, p2, p3⟩ := row_quad (row_later HC.out HBZ2.out)
                      obtain ⟨⟨x0, x1, x2, x3, x4⟩, -⟩ := row_five8 (row_later XR2.out hbz2)
                      obtain ⟨⟨z0, z1, z2, z3, z4⟩, -⟩ := row_five8 hzr
                      have hvz : vr.heap.size < VZ.heap.size := row_lt (row_later XR2.out hbz2)
                      have hvz2 : vs.heap.size < VZ.heap.size := row_lt hzr
                      have hcl3 : w.heap.size < VZ.heap.size := by have := HBZ2.out.size; omega
                      clear hzr
                      have hya : AnsIn VZ x yh yk yt := ((HYA.out.below HBA2.out).kept HKV.out).below hbz2
                      have ra := row_later HA.out HBZ2.out
                      obtain ⟨r0, r1, r2, r3, r4, r5, r6, r7⟩ := row_eight (show VZ.heap[w.heap.size + 1]? = some (.cells #[_, _, _, _, _, _, _, _] _ (0, 0)) from ra)
                      have hga : w.heap.size + 1 < VZ.heap.size := row_lt ra
                      have HRG := Lib.hid (right7_any a x (hA, hn, hc) (kA, kn, kc) yh yk yt VZ (HAI.out.below HBZ2.out) hya (by have h1 := An.right_texts8 hx'; have h2 := hya.tn; omega))
                      rw [hx', askV_eq, ansV_eq] at HRG
                      rw [HXE.out] at HRG
                      have XR3 := Lib.hid (row_later XR2.out hbz2)
                      clear hya ra hbz2
                      go_wp2_with fail
                      refine HRG.out.mono ?_
                      rintro e wq ⟨rfl, hb9⟩
                      have HB9 := Lib.hid (HBZ2.out.trans (hb9.mono HBZ2.out.size))
                      clear p0 p1 p2 p3 x0 x1 x2 x3 x4 z0 z1 z2 z3 z4 r0 r1 r2 r3 r4 r5 r6 r7 HRG hvz hvz2 hcl3 hga
                      obtain ⟨⟨x0, x1, x2, x3, x4⟩, -⟩ := row_five8 (row_later XR3.out hb9)
                      obtain ⟨p0, p1, p2, p3⟩ := row_quad (row_later HC.out HB9.out)
                      have hvz : vr.heap.size < wq.heap.size := row_lt (row_later XR3.out hb9)
                      have hcl3 : w.heap.size < wq.heap.size := by have := HB9.out.size; omega
                      clear hb9
                      go_wp2_with fail
                      go_ret
                      exact ⟨rfl, HB0.out.trans (HB9.out.mono HB0.out.size)⟩
                    | silent q' ht' =>
                      go_wp2_with fail
                      refine HX.out.mono ?_
                      rintro e vr ⟨hp, -⟩
                      obtain ⟨B, n, cc, KK, xe, yh, yk, yt, rfl, hk, hxe, hn', hc', hmx, hly, hy, hmm, hbu⟩ := LTickPost.out hp
                      obtain rfl : (2 : Int) = KK := hk
                      have hbv : Below w0.heap.size w0 vr := but_up HBC.out hbu hqw0
                      have hvs : wr.heap.size ≤ vr.heap.size := hbu.size
                      have HMM := Lib.hid hmm
                      have HBV := Lib.hid hbv
                      have HLV : Hid (Lies u8v vr A4' (Ms.sent c a)) := Lib.hid (HLC.out.but hbu (fun b o s e _ hm => by
                        subst e
                        have h1 := (HO12.out.lt b rfl).1
                        have h2 := HQB.out
                        have h3 := List.mem_singleton.1 hm
                        omega))
                      have HBA : Hid (Below vr.heap.size vr (vr.alloc (.cells #[.int .i64 2, .int .i64 xe, .slice yh.1 yh.2.1 yh.2.2, .slice yk.1 yk.2.1 yk.2.2, .slice yt.1 yt.2.1 yt.2.2] 48))) := Lib.hid ((Below.refl _ _).alloc (Nat.le_refl _) _)
                      clear p0 p1 p2 p3 HX hp hcl hc' hmx hmm hbu
                      obtain ⟨p0, p1, p2, p3⟩ := row_quad (row_later HC.out hbv)
                      have hcl : w.heap.size < vr.heap.size := by have := hbv.size; omega
                      obtain rfl : 0 = n := hn'
                      clear hbv
                      obtain ⟨VA, hVA⟩ : ∃ VA, vr.alloc (.cells #[.int .i64 2, .int .i64 xe, .slice yh.1 yh.2.1 yh.2.2, .slice yk.1 yk.2.1 yk.2.2, .slice yt.1 yt.2.1 yt.2.2] 48) = VA := ⟨_, rfl⟩
                      have HBA2 := HBA
                      have hxr : (vr.alloc (.cells #[.int .i64 2, .int .i64 xe, .slice yh.1 yh.2.1 yh.2.2, .slice yk.1 yk.2.1 yk.2.2, .slice yt.1 yt.2.1 yt.2.2] 48)).heap[vr.heap.size]? = _ := row_at vr _ _ vr.heap.size rfl
                      rw [hVA] at HBA2 hxr
                      have HXR := Lib.hid hxr
                      have HYA := Lib.hid hy
                      have HT2 := Lib.hid (tick8_any S q D c ⟨q', .idle⟩ VA hrc (HMM.out.below HBA2.out) (.inl rfl))
                      rw [show Ms.tick c ⟨q', .idle⟩ = (⟨min (q' + 1) c.gap, .idle⟩, [], .none) from rfl] at HT2
                      have HVA := Lib.hid hVA
                      have hvv : vr.heap.size < VA.heap.size := row_lt hxr
                      clear hly hy hxe hVA hxr
                      go_wp2_with fail
                      rw [HVA.out]
                      refine HT2.out.mono ?_
                      rintro e vs ⟨hp2, hk2⟩
                      obtain ⟨B2, n2, cc2, KK2, xe2, zh, zk, zt, rfl, hk2', -, -, -, -, -, hz2, hmm2, hbu2⟩ := LTickPost.out hp2
                      obtain rfl : (0 : Int) = KK2 := hk2'
                      have HBZ := Lib.hid (but_up (HBV.out.trans (HBA2.out.mono HBV.out.size)) hbu2 hqw0)
                      have HKV := Lib.hid (hk2 trivial)
                      have HM2 := Lib.hid hmm2
                      have HZ2 := Lib.hid hz2
                      have hqv : vr.heap.size ∉ [q] := by have := HMM.out.lt; rw [List.mem_singleton]; omega
                      have xr2 := row_but HXR.out hbu2 hqv
                      clear hp2 hk2 hz2 hmm2 HT2 p0 p1 p2 p3
                      obtain ⟨p0, p1, p2, p3⟩ := row_quad (row_later HC.out HBZ.out)
                      obtain ⟨⟨x0, x1, x2, x3, x4⟩, -⟩ := row_five8 xr2
                      have hcl : w.heap.size < vs.heap.size := by have := HBZ.out.size; omega
                      have hvz : vr.heap.size < vs.heap.size := row_lt xr2
                      have XR2 := Lib.hid xr2
                      clear xr2
                      go_wp2_with fail
                      obtain ⟨VZ, hVZ⟩ : ∃ VZ, vs.alloc (.cells #[.int .i64 0, .int .i64 xe2, .slice zh.1 zh.2.1 zh.2.2, .slice zk.1 zk.2.1 zk.2.2, .slice zt.1 zt.2.1 zt.2.2] 48) = VZ := ⟨_, rfl⟩
                      have hzr : (vs.alloc (.cells #[.int .i64 0, .int .i64 xe2, .slice zh.1 zh.2.1 zh.2.2, .slice zk.1 zk.2.1 zk.2.2, .slice zt.1 zt.2.1 zt.2.2] 48)).heap[vs.heap.size]? = _ := row_at vs _ _ vs.heap.size rfl
                      have hbz2 : Below vs.heap.size vs (vs.alloc (.cells #[.int .i64 0, .int .i64 xe2, .slice zh.1 zh.2.1 zh.2.2, .slice zk.1 zk.2.1 zk.2.2, .slice zt.1 zt.2.1 zt.2.2] 48)) := (Below.refl _ _).alloc (Nat.le_refl _) _
                      rw [hVZ] at hzr hbz2 ⊢
                      refine (lbusy8 VZ (HM2.out.below hbz2)).mono ?_
                      rintro e w' ⟨rfl, rfl⟩
                      rename World => VZ
                      rw [show (Ms.code (⟨min (q' + 1) c.gap, .idle⟩ : Mst).st != 0) = false from rfl]
                      have HBZ2 := Lib.hid (HBZ.out.trans (hbz2.mono HBZ.out.size))
                      clear p0 p1 p2 p3 x0 x1 x2 x3 x4 hvz hVZ
                      obtain ⟨p0, p1, p2, p3⟩ := row_quad (row_later HC.out HBZ2.out)
                      obtain ⟨⟨x0, x1, x2, x3, x4⟩, -⟩ := row_five8 (row_later XR2.out hbz2)
                      obtain ⟨⟨z0, z1, z2, z3, z4⟩, -⟩ := row_five8 hzr
                      have hvz : vr.heap.size < VZ.heap.size := row_lt (row_later XR2.out hbz2)
                      have hvz2 : vs.heap.size < VZ.heap.size := row_lt hzr
                      have hcl3 : w.heap.size < VZ.heap.size := by have := HBZ2.out.size; omega
                      clear hzr
                      have hkt : ((k : Int) == (c.tries : Int)) = true := by rw [beq_iff_eq]; omega
                      clear hbz2
                      go_wp2_with fail
                      go_ret
                      exact ⟨rfl, HB0.out.trans (HBZ2.out.mono HB0.out.size)⟩
                    | garbled q' ht' =>
                      go_wp2_with fail
                      refine HX.out.mono ?_
                      rintro e vr ⟨hp, -⟩
                      obtain ⟨B, n, cc, KK, xe, yh, yk, yt, rfl, hk, hxe, hn', hc', hmx, hly, hy, hmm, hbu⟩ := LTickPost.out hp
                      obtain rfl : (3 : Int) = KK := hk
                      have hbv : Below w0.heap.size w0 vr := but_up HBC.out hbu hqw0
                      have hvs : wr.heap.size ≤ vr.heap.size := hbu.size
                      have HMM := Lib.hid hmm
                      have HBV := Lib.hid hbv
                      have HLV : Hid (Lies u8v vr A4' (Ms.sent c a)) := Lib.hid (HLC.out.but hbu (fun b o s e _ hm => by
                        subst e
                        have h1 := (HO12.out.lt b rfl).1
                        have h2 := HQB.out
                        have h3 := List.mem_singleton.1 hm
                        omega))
                      have HBA : Hid (Below vr.heap.size vr (vr.alloc (.cells #[.int .i64 3, .int .i64 xe, .slice yh.1 yh.2.1 yh.2.2, .slice yk.1 yk.2.1 yk.2.2, .slice yt.1 yt.2.1 yt.2.2] 48))) := Lib.hid ((Below.refl _ _).alloc (Nat.le_refl _) _)
                      clear p0 p1 p2 p3 HX hp hcl hc' hmx hmm hbu
                      obtain ⟨p0, p1, p2, p3⟩ := row_quad (row_later HC.out hbv)
                      have hcl : w.heap.size < vr.heap.size := by have := hbv.size; omega
                      obtain rfl : 0 = n := hn'
                      clear hbv
                      obtain ⟨VA, hVA⟩ : ∃ VA, vr.alloc (.cells #[.int .i64 3, .int .i64 xe, .slice yh.1 yh.2.1 yh.2.2, .slice yk.1 yk.2.1 yk.2.2, .slice yt.1 yt.2.1 yt.2.2] 48) = VA := ⟨_, rfl⟩
                      have HBA2 := HBA
                      have hxr : (vr.alloc (.cells #[.int .i64 3, .int .i64 xe, .slice yh.1 yh.2.1 yh.2.2, .slice yk.1 yk.2.1 yk.2.2, .slice yt.1 yt.2.1 yt.2.2] 48)).heap[vr.heap.size]? = _ := row_at vr _ _ vr.heap.size rfl
                      rw [hVA] at HBA2 hxr
                      have HXR := Lib.hid hxr
                      have HYA := Lib.hid hy
                      have HT2 := Lib.hid (tick8_any S q D c ⟨q', .idle⟩ VA hrc (HMM.out.below HBA2.out) (.inl rfl))
                      rw [show Ms.tick c ⟨q', .idle⟩ = (⟨min (q' + 1) c.gap, .idle⟩, [], .none) from rfl] at HT2
                      have HVA := Lib.hid hVA
                      have hvv : vr.heap.size < VA.heap.size := row_lt hxr
                      clear hly hy hxe hVA hxr
                      go_wp2_with fail
                      rw [HVA.out]
                      refine HT2.out.mono ?_
                      rintro e vs ⟨hp2, hk2⟩
                      obtain ⟨B2, n2, cc2, KK2, xe2, zh, zk, zt, rfl, hk2', -, -, -, -, -, hz2, hmm2, hbu2⟩ := LTickPost.out hp2
                      obtain rfl : (0 : Int) = KK2 := hk2'
                      have HBZ := Lib.hid (but_up (HBV.out.trans (HBA2.out.mono HBV.out.size)) hbu2 hqw0)
                      have HKV := Lib.hid (hk2 trivial)
                      have HM2 := Lib.hid hmm2
                      have HZ2 := Lib.hid hz2
                      have hqv : vr.heap.size ∉ [q] := by have := HMM.out.lt; rw [List.mem_singleton]; omega
                      have xr2 := row_but HXR.out hbu2 hqv
                      clear hp2 hk2 hz2 hmm2 HT2 p0 p1 p2 p3
                      obtain ⟨p0, p1, p2, p3⟩ := row_quad (row_later HC.out HBZ.out)
                      obtain ⟨⟨x0, x1, x2, x3, x4⟩, -⟩ := row_five8 xr2
                      have hcl : w.heap.size < vs.heap.size := by have := HBZ.out.size; omega
                      have hvz : vr.heap.size < vs.heap.size := row_lt xr2
                      have XR2 := Lib.hid xr2
                      clear xr2
                      go_wp2_with fail
                      obtain ⟨VZ, hVZ⟩ : ∃ VZ, vs.alloc (.cells #[.int .i64 0, .int .i64 xe2, .slice zh.1 zh.2.1 zh.2.2, .slice zk.1 zk.2.1 zk.2.2, .slice zt.1 zt.2.1 zt.2.2] 48) = VZ := ⟨_, rfl⟩
                      have hzr : (vs.alloc (.cells #[.int .i64 0, .int .i64 xe2, .slice zh.1 zh.2.1 zh.2.2, .slice zk.1 zk.2.1 zk.2.2, .slice zt.1 zt.2.1 zt.2.2] 48)).heap[vs.heap.size]? = _ := row_at vs _ _ vs.heap.size rfl
                      have hbz2 : Below vs.heap.size vs (vs.alloc (.cells #[.int .i64 0, .int .i64 xe2, .slice zh.1 zh.2.1 zh.2.2, .slice zk.1 zk.2.1 zk.2.2, .slice zt.1 zt.2.1 zt.2.2] 48)) := (Below.refl _ _).alloc (Nat.le_refl _) _
                      rw [hVZ] at hzr hbz2 ⊢
                      refine (lbusy8 VZ (HM2.out.below hbz2)).mono ?_
                      rintro e w' ⟨rfl, rfl⟩
                      rename World => VZ
                      rw [show (Ms.code (⟨min (q' + 1) c.gap, .idle⟩ : Mst).st != 0) = false from rfl]
                      have HBZ2 := Lib.hid (HBZ.out.trans (hbz2.mono HBZ.out.size))
                      clear p0 p1 p2 p3 x0 x1 x2 x3 x4 hvz hVZ
                      obtain ⟨p0, p1, p2, p3⟩ := row_quad (row_later HC.out HBZ2.out)
                      obtain ⟨⟨x0, x1, x2, x3, x4⟩, -⟩ := row_five8 (row_later XR2.out hbz2)
                      obtain ⟨⟨z0, z1, z2, z3, z4⟩, -⟩ := row_five8 hzr
                      have hvz : vr.heap.size < VZ.heap.size := row_lt (row_later XR2.out hbz2)
                      have hvz2 : vs.heap.size < VZ.heap.size := row_lt hzr
                      have hcl3 : w.heap.size < VZ.heap.size := by have := HBZ2.out.size; omega
                      clear hzr
                      have hkt : ((k : Int) == (c.tries : Int)) = true := by rw [beq_iff_eq]; omega
                      clear hbz2
                      go_wp2_with fail
                      go_ret
                      exact ⟨rfl, HB0.out.trans (HBZ2.out.mono HB0.out.size)⟩
  · obtain rfl := he
    have HR := Lib.hid (right8_any u g f t w2)
    rw [hno] at HR
    clear hno hb2 hbe1
    go_wp2_with fail
    refine HR.out.mono ?_
    rintro e w3 ⟨rfl, hb3⟩
    have hbe3 := hbe2.trans (hb3.mono hbe2.size)
    clear hb3
    go_wp2_with fail
    go_ret
    exact ⟨rfl, HB0.out.trans (hbe3.mono HB0.out.size)⟩
end Go.Proofs.YtlgmjnjhdamknaaGreat
