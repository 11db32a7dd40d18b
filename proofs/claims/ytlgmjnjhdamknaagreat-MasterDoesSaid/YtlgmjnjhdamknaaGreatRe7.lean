
/- A part of the proof of the law MasterDoes. -/
import Derived.Test.YtlgmjnjhdamknaaGreatMem
import Derived.Test.YtlgmjnjhdamknaaGreatKp
import Derived.Test.YtlgmjnjhdamknaaGreatLa
import Derived.Test.YtlgmjnjhdamknaaGreatTx
import Derived.Laws.IdiomStrings
import Derived.Deep.RegionHeld3
namespace Go.Proofs.YtlgmjnjhdamknaaGreat
open Go.RowKit

def NumPost (w : World) (q : Nat) (x : UInt8) (r : List UInt8) (e : Ending) (w' : World) : Prop :=
  e = .returned (.int .i64 (x.toNat : Int)) ∧ RdAt w' q r ∧ But [q] w w'
set_option maxRecDepth 100000 in
set_option maxHeartbeats 1000000 in
theorem number_no (q : Nat) (w : World) (h : RdAt w q []) :
    Calls Tryz.prog 183 #[.pointer (some ⟨q, 0, none⟩)] w (GavePost w q) := by
  have HT := qh (take_no q 1 [] (by simp) w h)
  clear h
  go_enter Tryz.func183, Tryz.ntmps183
  go_wp2_with fail
  refine (HT.out).mono ?_
  rintro e w' ⟨he, hb⟩
  obtain rfl := he
  go_wp2_with fail
  exact ⟨rfl, rfl, hb⟩
set_option maxRecDepth 100000 in
set_option maxHeartbeats 1000000 in
theorem number_yes (q : Nat) (x : UInt8) (r : List UInt8) (w : World) (h : RdAt w q (x :: r)) :
    Calls Tryz.prog 183 #[.pointer (some ⟨q, 0, none⟩)] w (NumPost w q x r) := by
  have HT := qh (take_yes q 1 (x :: r) (by simp) w h)
  clear h
  go_enter Tryz.func183, Tryz.ntmps183
  go_wp2_with fail
  refine (HT.out).mono ?_
  rintro e w' ⟨A, c, rfl, h1, h2, h3, h4, h5⟩
  have h3 : Lies u8v w' A [x] := h3
  have h4 : RdAt w' q r := h4
  obtain ⟨b0, o0, rfl, hc⟩ := h3 0 (by simp)
  have hc1 : w'.cell? ⟨b0, o0, none⟩ = some (.int .u8 (x.toNat : Int)) := hc
  have hl : ((x :: r).take 1).length = 1 := by simp
  rw [hl]
  have h01 : (0 : Nat) < 1 := by omega
  have H4 := qh h4
  have H5 := qh h5
  have hx := x.toNat_lt
  clear h1 h3 h4 h5 HT hl hc
  obtain ⟨n, hnx⟩ : ∃ n, x.toNat = n := ⟨_, rfl⟩
  rw [hnx] at hc1 hx
  have HX := qh hnx
  clear hnx
  go_wp2_with fail
  go_ret
  exact ⟨by rw [HX.out]; rfl, H4.out, H5.out⟩

set_option maxRecDepth 100000 in
set_option maxHeartbeats 1000000 in
theorem counted_no (q : Nat) (b : List UInt8) (w : World) (h : RdAt w q b) (hb : An.countedR b = none) :
    Calls Tryz.prog 186 #[.pointer (some ⟨q, 0, none⟩)] w (GavePost w q) := by
  rcases b with _ | ⟨x, r⟩
  · have HT := qh (number_no q w h)
    clear h hb
    go_enter Tryz.func186, Tryz.ntmps186
    go_wp2_with fail
    refine (HT.out).mono ?_
    rintro e w' ⟨he, hb⟩
    obtain rfl := he
    go_wp2_with fail
    exact ⟨rfl, rfl, hb⟩
  · rw [An.countedR_cons] at hb
    have hn : r.length < x.toNat := by
      split at hb
      · cases hb
      · omega
    have HT := qh (number_yes q x r w h)
    clear h hb
    go_enter Tryz.func186, Tryz.ntmps186
    go_wp2_with fail
    refine (HT.out).mono ?_
    rintro e w1 ⟨rfl, hr, hb⟩
    have HT := qh (take_no q x.toNat r hn w1 hr)
    go_wp2_with fail
    refine (HT.out).mono ?_
    rintro e w' ⟨he, hb'⟩
    obtain rfl := he
    go_wp2_with fail
    exact ⟨rfl, rfl, hb.trans hb'⟩
set_option maxRecDepth 100000 in
set_option maxHeartbeats 1000000 in
theorem counted_yes (q : Nat) (b p r : List UInt8) (w : World) (h : RdAt w q b) (hb : An.countedR b = some (p, r)) :
    Calls Tryz.prog 186 #[.pointer (some ⟨q, 0, none⟩)] w (TookPost w q p r) := by
  rcases b with _ | ⟨x, t⟩
  · cases hb
  · rw [An.countedR_cons] at hb
    split at hb
    · next hn =>
      simp only [Option.some.injEq, Prod.mk.injEq] at hb
      obtain ⟨rfl, rfl⟩ := hb
      have HT := qh (number_yes q x t w h)
      clear h
      go_enter Tryz.func186, Tryz.ntmps186
      go_wp2_with fail
      refine (HT.out).mono ?_
      rintro e w1 ⟨rfl, hr, hb⟩
      have HT := qh (take_yes q x.toNat t hn w1 hr)
      go_wp2_with fail
      refine (HT.out).mono ?_
      rintro e w' ⟨A, c, rfl, h1, h2, h3, h4, h5⟩
      have HE : Hid (TookPost w q (t.take x.toNat) (t.drop x.toNat) (.returned (.slice A (t.take x.toNat).length c)) w') := qh ⟨A, c, rfl, h1, h2, h3, h4, hb.trans h5⟩
      clear h1 h2 h3 h4 h5 hn
      obtain ⟨L, hL⟩ : ∃ L, (t.take x.toNat).length = L := ⟨_, rfl⟩
      rw [hL] at HE ⊢
      clear hL
      go_wp2_with fail
      go_ret
      exact HE.out
    · cases hb

def JustPost (w : World) (q : Nat) (r : List UInt8) (e : Ending) (w' : World) : Prop := e = .returned (.tuple #[]) ∧ RdAt w' q r ∧ But [q] w w'
set_option maxRecDepth 100000 in
set_option maxHeartbeats 1000000 in
theorem just_no (q : Nat) (b p : List UInt8) (A : Option Addr) (n c : Nat) (hn : p.length = n) (w : World) (hp : Lies u8v w A p) (h : RdAt w q b) (hb : An.justR p b = none) :
    Calls Tryz.prog 188 #[.pointer (some ⟨q, 0, none⟩), .slice A n c] w (GavePost w q) := by
  by_cases hlen : n ≤ b.length
  · have hne : b.take n ≠ p := by
      intro e
      unfold An.justR at hb
      rw [hn, if_pos ⟨hlen, e⟩] at hb
      cases hb
    have HT := qh (take_yes q n b hlen w h)
    have hfar := h.far hp
    have hq := beq_eq_false_iff_ne.2 hne
    have hl : (b.take n).length = n := by rw [List.length_take]; omega
    have HQ := qh hq
    have HN := qh hn
    have HL := qh hl
    have HP := qh hp
    have HF := qh hfar
    clear h hb hne hq hn hl hp hfar
    go_enter Tryz.func188, Tryz.ntmps188
    go_wp2_with fail
    refine (HT.out).mono ?_
    rintro e w1 ⟨A1, c1, rfl, h1, h2, h3, h4, h5⟩
    rw [HL.out]
    have HE := qh (bequal_any A1 A n n c1 c (b.take n) p HL.out HN.out w1 h3 (HP.out.but h5 HF.out))
    rw [HQ.out] at HE
    clear h1 h3 h4
    go_wp2_with fail
    refine (HE.out).mono ?_
    rintro e w2 ⟨rfl, rfl⟩
    go_wp2_with fail
    refine (need_no _).mono ?_
    rintro e w' ⟨he, rfl⟩
    obtain rfl := he
    go_wp2_with fail
    exact ⟨rfl, rfl, h5⟩
  · have HT := qh (take_no q n b (by omega) w h)
    clear h hb hlen hn hp
    go_enter Tryz.func188, Tryz.ntmps188
    go_wp2_with fail
    refine (HT.out).mono ?_
    rintro e w' ⟨he, hb⟩
    obtain rfl := he
    go_wp2_with fail
    exact ⟨rfl, rfl, hb⟩
set_option maxRecDepth 100000 in
set_option maxHeartbeats 1000000 in
theorem just_yes (q : Nat) (b p r : List UInt8) (A : Option Addr) (n c : Nat) (hn : p.length = n) (w : World) (hp : Lies u8v w A p) (h : RdAt w q b) (hb : An.justR p b = some r) :
    Calls Tryz.prog 188 #[.pointer (some ⟨q, 0, none⟩), .slice A n c] w (JustPost w q r) := by
  unfold An.justR at hb
  split at hb
  · next hc =>
    obtain ⟨hlen, he⟩ := hc
    simp only [Option.some.injEq] at hb
    obtain rfl := hb
    rw [hn] at hlen he
    have HT := qh (take_yes q n b hlen w h)
    rw [he] at HT
    have HQ : Hid ((p == p) = true) := qh (by simp)
    have HN := qh hn
    have HP := qh hp
    have HF := qh (h.far hp)
    clear h hn hp hlen he
    go_enter Tryz.func188, Tryz.ntmps188
    go_wp2_with fail
    refine (HT.out).mono ?_
    rintro e w1 ⟨A1, c1, rfl, h1, h2, h3, h4, h5⟩
    rw [HN.out]
    have HE := qh (bequal_any A1 A n n c1 c p p HN.out HN.out w1 h3 (HP.out.but h5 HF.out))
    rw [HQ.out] at HE
    clear h1 h3
    go_wp2_with fail
    refine (HE.out).mono ?_
    rintro e w2 ⟨rfl, rfl⟩
    go_wp2_with fail
    refine (need_yes _).mono ?_
    rintro e w' ⟨rfl, rfl⟩
    go_wp2_with fail
    go_end0
    exact ⟨rfl, by rw [HN.out]; exact h4, h5⟩
  · cases hb
end Go.Proofs.YtlgmjnjhdamknaaGreat

namespace Go.Proofs.YtlgmjnjhdamknaaGreat
open Go.RowKit

section
variable {P : Program}
theorem step_conv (w : World) (src dst e : TypeId) (s : ByteArray) (hs : P.underlying src = some .string) (hd : P.underlying dst = some (.slice e)) (he : P.underlying e = some (.int .u8))
    {ops : Array Oper} {o : Oper} {a : Act} {K' : Act → World → Prop} {Q : Exit → Act → World → Prop} {E : Prop} (hgd : o.guard = none) (x : Operand) (ho : o.op = .convert src dst x) (hx : a.eval x = .string s)
    (h : ∀ c' w', s.size ≤ c' → c' ≤ maxLen → Lies u8v w' (some ⟨w.heap.size, 0, none⟩) s.data.toList → Below w.heap.size w w' → w'.heap.size = w.heap.size + 1 → K' (a.put o.dst (.slice (some ⟨w.heap.size, 0, none⟩) s.size c')) w') (hsz : s.size ≤ 1000) :
    if Region.wanted o (yielded ops a.tmps) = true then Oper.wp P o a w K' Q else E := by
  rw [if_pos (by simp [Region.wanted, hgd])]
  have hrun := run_bytes_of_string (P := P) w src dst e s hs hd he
  have hG := grownCap_ge w s.size 0 e
  have hG2 := grownCap_le_maxLen w s.size 0 e (by unfold maxLen; omega)
  generalize grownCap w s.size 0 e = G at *
  unfold Oper.wp
  simp [execOp, ho, hx, hrun, Result.andThen]
  refine h G _ hG hG2 ?_ ((drewN_below (Below.refl _ w) 1).alloc (zq _) _) (by simp)
  refine Lies.of_row fun j hj => ?_
  show (w.drew.alloc _).cell? ⟨w.drew.heap.size, 0 + j, none⟩ = _
  rw [cell_of_row _ _ _ _ _ _ (heap_alloc_new w.drew _)]
  unfold bytesRow
  have hj' : j < s.data.size := by rw [← Array.length_toList]; exact hj
  rw [Nat.zero_add, Array.getElem?_append_left (by simpa using hj')]
  simp
  exact ⟨_, Array.getElem?_eq_getElem hj', rfl⟩
end-- AT43
theorem upon_conv {P : Program} (w : World) (src dst e : TypeId) (s : ByteArray) (hs : P.underlying src = some .string) (hd : P.underlying dst = some (.slice e)) (he : P.underlying e = some (.int .u8))
    {o : Oper} {a : Act} {K : Act → World → Prop} {Q : Exit → Act → World → Prop} (hsz : s.size ≤ 1000)
    (h : ∀ c' w', s.size ≤ c' → c' ≤ maxLen → Lies u8v w' (some ⟨w.heap.size, 0, none⟩) s.data.toList → Below w.heap.size w w' → w'.heap.size = w.heap.size + 1 → K (a.put o.dst (.slice (some ⟨w.heap.size, 0, none⟩) s.size c')) w') :
    Oper.upon P o a K Q ((Sem.run P (convert src dst (strv s)) w).andThen fun a w' => .ok (.value a) w') := by
  have hrun := run_bytes_of_string (P := P) w src dst e s hs hd he
  have hG := grownCap_ge w s.size 0 e
  have hG2 := grownCap_le_maxLen w s.size 0 e (by unfold maxLen; omega)
  generalize grownCap w s.size 0 e = G at *
  rw [show Sem.run P (convert src dst (strv s)) w = _ from hrun]
  refine h G _ hG hG2 ?_ ((drewN_below (Below.refl _ w) 1).alloc (zq _) _) (by simp)
  refine Lies.of_row fun j hj => ?_
  show (w.drew.alloc _).cell? ⟨w.drew.heap.size, 0 + j, none⟩ = _
  rw [cell_of_row _ _ _ _ _ _ (heap_alloc_new w.drew _)]
  unfold bytesRow
  have hj' : j < s.data.size := by rw [← Array.length_toList]; exact hj
  rw [Nat.zero_add, Array.getElem?_append_left (by simpa using hj')]
  simp
  exact ⟨_, Array.getElem?_eq_getElem hj', rfl⟩
theorem lies_grown {α : Type} {f : α → Value} {w w' : World} {A : Option Addr} {n c g G : Nat} {l : List α} (h : Lies f w (some ⟨g, 0, none⟩) l) (hg : w.grownBy w' (Value.slice A n c).ownBlock) (hlt : ∀ b o s, A = some ⟨b, o, s⟩ → b < G) (hG : G ≤ g) (hs : g < w.heap.size) : Lies f w' (some ⟨g, 0, none⟩) l := by
  have hne : some g ≠ (Value.slice A n c).ownBlock := by
    rcases A with _ | ⟨b, o, s⟩
    · simp [Value.ownBlock]
    · have h1 := hlt b o s rfl
      simp only [Value.ownBlock]
      intro e
      have h2 : g = b := by simpa using e
      exact absurd h2 (by omega)
  refine Lies.of_row fun j hj => ?_
  exact (World.cell?_of_block (w := w) (w' := w') (a := ⟨g, 0 + j, none⟩) (hg.block g hs hne)).trans (h.row j hj)
theorem laid_append (m l : List ByteArray) : ∀ i, (An.laid i (l ++ m)).length = (An.laid i l).length + (An.laid (i + l.length) m).length := by
  induction l with
  | nil => intro i; simp [An.laid]
  | cons t r ih => intro i; have h1 := ih (i + 1); rw [show i + (t :: r).length = i + 1 + r.length from by simp; omega]; simp [An.laid] at *; omega
theorem laid_two (l : List ByteArray) : ∀ i, 2 * l.length ≤ (An.laid i l).length := by
  induction l with
  | nil => intro i; simp [An.laid]
  | cons t r ih => intro i; have h1 := ih (i + 1); simp [An.laid] at *; omega
theorem laid_snoc (s : ByteArray) (l : List ByteArray) : ∀ i, An.laid i (l ++ [s]) = An.laid i l ++ (An.b1 (i + l.length) :: An.b1 s.size :: s.data.toList) := by
  induction l with
  | nil => intro i; simp [An.laid]
  | cons t r ih => intro i; simp [An.laid, ih, Nat.add_assoc, Nat.add_comm 1]
theorem laid_step {l : List ByteArray} {j : Nat} (h : j < l.length) (i : Nat) : An.laid i (l.take (j + 1)) = An.laid i (l.take j) ++ (An.b1 (i + j) :: An.b1 l[j].size :: l[j].data.toList) := by
  rw [List.take_succ_eq_append_getElem h, laid_snoc, List.length_take, Nat.min_eq_left (Nat.le_of_lt h)]
end Go.Proofs.YtlgmjnjhdamknaaGreat

namespace Go.Proofs.YtlgmjnjhdamknaaGreat
open Go.RowKit

def An.ahead0 (P : List UInt8) (n : Nat) : List UInt8 := P ++ [An.b1 n]
theorem ansV_eq (x : Ans) (h k t : Hd) : ansV x h k t = .agg #[.int .i64 x.exc, .slice h.1 h.2.1 h.2.2, .slice k.1 k.2.1 k.2.2, .slice t.1 t.2.1 t.2.2] := rfl
theorem LaidPost.text {w : World} {l : List UInt8} {e : Ending} {w' : World} (h : LaidPost w l e w') : AnTextPost w l e w' := by
  obtain ⟨A, n, c, h1, h2, h3, h4⟩ := h
  obtain ⟨g1, g2, _, g3⟩ := own_at h3
  exact ⟨A, n, c, h1, h2, g1, g2, g3, h4⟩
theorem b1_row (n : Nat) (h : n < 256) (r : List Value) (l : List UInt8) (hr : r = l.map u8v) : (.int .u8 (n : Int)) :: r = (An.b1 n :: l).map u8v := by
  rw [List.map_cons, hr, An.b1, u8_ofNat n h]

set_option maxRecDepth 100000 in
set_option maxHeartbeats 400000 in
theorem counted7_any (A : Option Addr) (n c : Nat) (b : List UInt8) (hn : b.length = n) (hm : n ≤ 255) (w : World) (hb : Lies u8v w A b) :
    Calls Tryz.prog 140 #[.slice A n c] w (LaidPost w (An.b1 n :: b)) := by
  have e1 : (n : Int) % 256 = (n : Int) := by omega
  have HO : Hid ((w.alloc (.cells #[.int .u8 (n : Int)] 5)).ownsRow w.heap.size 5 1 (.slice (some ⟨w.heap.size, 0, none⟩) 1 1) 1 ([An.b1 n].map u8v)) := qh (own_lit u8v w _ _ _ _ 1 _ (b1_row n (by omega) [] [] rfl) rfl (zq _) rfl (by unfold maxLen; omega))
  have HL : Hid (Lies u8v (w.alloc (.cells #[.int .u8 (n : Int)] 5)) A b) := qh (hb.alloc _)
  have HN := qh hn
  clear hb hn
  go_enter Tryz.func140, Tryz.ntmps140
  go_wp2_with (at_builtin; go_must (refine wpList_append_lies kit8 one8 _ rfl (.tmp 6) (.tmp 7) rfl w.heap.size _ 1 [An.b1 n] rfl HO.out A n c b rfl HN.out HL.out (by omega) (by unfold maxLen; omega) (by simp) ?_; intro A9 c9 w9 hown9 hg9 hb9))
  go_ret
  exact ⟨A9, 1 + n, c9, rfl, by rw [List.length_cons, HN.out]; omega, hown9, ((Below.refl _ w).alloc (zq _) _).trans hb9⟩

set_option maxRecDepth 100000 in
set_option maxHeartbeats 400000 in
theorem ahead7_any (a : Ask) (h k : Option Addr × Nat × Nat) (h0 : 0 ≤ a.count) (h1 : a.count ≤ 255) (w : World) :
    Calls Tryz.prog 167 #[askV a h k] w (LaidPost w (An.ahead a)) := by
  obtain ⟨n, hn⟩ := Int.eq_ofNat_of_zero_le h0
  have e1 : (n : Int) % 256 = (n : Int) := by omega
  have HO : Hid ((([.int .u8 14, .int .u8 (n : Int), .int .u8 1, .int .u8 0, .int .u8 0] : List Value)) = (An.ahead a).map u8v) := qh (by unfold An.ahead; rw [hn, Int.toNat_natCast]; simp only [List.map_cons, List.map_nil, An.b1]; rw [u8_ofNat n (by omega)]; rfl)
  rw [askV_eq, hn]
  clear hn h0 h1
  go_enter Tryz.func167, Tryz.ntmps167
  go_wp2_with fail
  go_ret
  exact ⟨_, 5, _, rfl, rfl, own_lit u8v _ _ _ _ _ 5 _ HO.out rfl (by simp) (by simp) (by unfold maxLen; omega), ((Below.refl _ w).alloc (zq _) _).alloc (by simp) _⟩

set_option maxRecDepth 100000 in
set_option maxHeartbeats 1000000 in
theorem echo7_any (a : Ask) (h k : Option Addr × Nat × Nat) (w : World) (ha : AskIn w a h k) (hr : Ak.right a = true) (hc : a.code = 5 ∨ a.code = 6 ∨ a.code = 22 ∨ a.code = 15 ∨ a.code = 16) :
    Calls Tryz.prog 142 #[askV a h k] w (AnTextPost w (An.echo a)) := by
  have hb0 : Below w.heap.size w (w.alloc (.cells #[.int .i64 a.code, .int .i64 a.addr, .int .i64 a.count, .int .i64 a.to, .slice h.1 h.2.1 h.2.2, .slice k.1 k.2.1 k.2.2, u16v a.and_, u16v a.or_] 40)) := (Below.refl _ _).alloc (zq _) _
  have hra := row_at w #[.int .i64 a.code, .int .i64 a.addr, .int .i64 a.count, .int .i64 a.to, .slice h.1 h.2.1 h.2.2, .slice k.1 k.2.1 k.2.2, u16v a.and_, u16v a.or_] 40 w.heap.size rfl
  have HB := qh (bytes6_any a h k _ (ha.below hb0))
  have HL : Hid (5 ≤ (Ak.bytes a).length) := qh (by rw [(An.ak_right hr).2]; exact An.text_back_len hr hc)
  rw [askV_eq] at HB
  rw [askV_eq]
  clear ha
  by_cases h15 : a.code = 15 ∨ a.code = 16
  · have HE : Hid (An.echo a = ((Ak.bytes a).drop 1).take 4) := qh (by unfold An.echo; rw [if_pos h15])
    have e1 : (a.code == 15) = true ∨ ((a.code == 15) = false ∧ (a.code == 16) = true) := by
      rcases h15 with e | e
      · exact .inl (by rw [e]; rfl)
      · exact .inr ⟨by rw [e]; rfl, by rw [e]; rfl⟩
    go_enter Tryz.func142, Tryz.ntmps142
    go_wp2_with fail
    refine HB.out.mono ?_
    rintro e w2 ⟨A, n, c, rfl, hn, hown, hb2⟩
    obtain ⟨q1, q2, q3, q4⟩ := own_at hown
    have hbw2 := hb0.trans (hb2.mono hb0.size)
    have hlt : w.heap.size < w2.heap.size := row_lt (row_later hra hb2)
    obtain ⟨r0, -⟩ := row_eight (row_later hra hb2)
    have hn5 : 5 ≤ n := by rw [← hn]; exact HL.out
    clear h15 hc hr
    rcases A with _ | ⟨ab, ao, as_⟩
    · exact absurd (q4 0 (by omega)) (by rintro ⟨_, _, h, _⟩; cases h)
    · have HR : Hid (AnTextPost w (An.echo a) (.returned (.slice (some ((⟨ab, ao, as_⟩ : Addr).add 1)) 4 (c - 1))) w2) := qh ⟨_, 4, c - 1, rfl, by rw [HE.out, List.length_take, List.length_drop, hn]; omega, by omega, by omega, by rw [HE.out]; exact (drop_past q4 1).take 4, hbw2⟩
      clear hn hown q4 q3
      have hcc : ¬ c = 1 := by omega
      rcases e1 with e1 | ⟨e1, e2⟩
      · go_wp2_with fail
        go_ret
        exact HR.out
      · go_wp2_with fail
        go_ret
        exact HR.out
  · have HE : Hid (An.echo a = (Ak.bytes a).drop 1) := qh (by unfold An.echo; rw [if_neg h15])
    have e1 : (a.code == 15) = false := beq_eq_false_iff_ne.2 (fun e => h15 (.inl e))
    have e2 : (a.code == 16) = false := beq_eq_false_iff_ne.2 (fun e => h15 (.inr e))
    go_enter Tryz.func142, Tryz.ntmps142
    go_wp2_with fail
    refine HB.out.mono ?_
    rintro e w2 ⟨A, n, c, rfl, hn, hown, hb2⟩
    obtain ⟨q1, q2, q3, q4⟩ := own_at hown
    have hbw2 := hb0.trans (hb2.mono hb0.size)
    have hlt : w.heap.size < w2.heap.size := row_lt (row_later hra hb2)
    obtain ⟨r0, -⟩ := row_eight (row_later hra hb2)
    have hn5 : 5 ≤ n := by rw [← hn]; exact HL.out
    clear h15 hc hr
    rcases A with _ | ⟨ab, ao, as_⟩
    · exact absurd (q4 0 (by omega)) (by rintro ⟨_, _, h, _⟩; cases h)
    · have HR : Hid (AnTextPost w (An.echo a) (.returned (.slice (some ((⟨ab, ao, as_⟩ : Addr).add 1)) (n - 1) (c - 1))) w2) := qh ⟨_, n - 1, c - 1, rfl, by rw [HE.out, List.length_drop, hn], by omega, by omega, by rw [HE.out]; exact drop_past q4 1, hbw2⟩
      clear hn hown q4 q3
      have hcc : ¬ c = 1 := by omega
      go_wp2_with fail
      go_ret
      exact HR.out
end Go.Proofs.YtlgmjnjhdamknaaGreat
