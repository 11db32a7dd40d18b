
/- A part of the proof of the law MasterDoes. -/
import Derived.Test.YtlgmjnjhdamknaaGreatMem
import Derived.Test.YtlgmjnjhdamknaaGreatLz
import Derived.Test.YtlgmjnjhdamknaaGreatRs2
import Derived.Deep.RegionHeld3
import Derived.Deep.DrawnRows
namespace Go.Proofs.YtlgmjnjhdamknaaGreat
open Go.RowKit Go.Shelf

set_option maxRecDepth 100000 in
set_option maxHeartbeats 1000000 in
theorem lay_none (c : Int) (hc : c ∉ Ak.codes) (w : World) : Calls Tryz.prog 42 #[.int .i64 c] w (LayPost w c) := by
  simp only [Ak.codes, List.mem_cons, List.not_mem_nil, or_false, not_or] at hc
  obtain ⟨n1, n2, n3, n4, n5, n6, n15, n16, n22, n23, n43⟩ := hc
  have HL : Hid (layOf c = none) := qh (by unfold layOf; simp only [n1, n2, n3, n4, n5, n6, n15, n16, n22, n23, n43, or_self, if_false])
  have e1 : (c == 1) = false := beq_eq_false_iff_ne.2 n1
  have e2 : (c == 2) = false := beq_eq_false_iff_ne.2 n2
  have e3 : (c == 3) = false := beq_eq_false_iff_ne.2 n3
  have e4 : (c == 4) = false := beq_eq_false_iff_ne.2 n4
  have e5 : (c == 5) = false := beq_eq_false_iff_ne.2 n5
  have e6 : (c == 6) = false := beq_eq_false_iff_ne.2 n6
  have e15 : (c == 15) = false := beq_eq_false_iff_ne.2 n15
  have e16 : (c == 16) = false := beq_eq_false_iff_ne.2 n16
  have e22 : (c == 22) = false := beq_eq_false_iff_ne.2 n22
  have e23 : (c == 23) = false := beq_eq_false_iff_ne.2 n23
  have e43 : (c == 43) = false := beq_eq_false_iff_ne.2 n43
  clear n1 n2 n3 n4 n5 n6 n15 n16 n22 n23 n43
  go_enter Tryz.func42, Tryz.ntmps42
  go_wp2_with fail
  refine bodyPost_ret_by (v := .tuple #[.agg #[.slice none 0 0, .slice none 0 0, .nilFunc], .bool false]) (by simp [results, Tryz.f42, go_sem]) rfl ?_
  refine ⟨?_, ?_⟩
  · exact ((Below.refl _ _).alloc (zq _) _).alloc (by simp) _
  · rw [HL.out]

theorem layoutOf_any (c : Int) (w : World) : Calls Tryz.prog 42 #[.int .i64 c] w (LayPost w c) := by
  by_cases hc : c ∈ Ak.codes
  · simp only [Ak.codes, List.mem_cons, List.not_mem_nil, or_false] at hc
    rcases hc with rfl | rfl | rfl | rfl | rfl | rfl | rfl | rfl | rfl | rfl | rfl
    · exact lay1 w
    · exact lay2 w
    · exact lay3 w
    · exact lay4 w
    · exact lay5 w
    · exact lay6 w
    · exact lay15 w
    · exact lay16 w
    · exact lay22 w
    · exact lay23 w
    · exact lay43 w
  · exact lay_none c hc w

namespace LK
def dropped (ps : List PK) (a : Ask) : Ask := ps.foldl (fun a p => p.drop a) a
def fits (L : LK) (a : Ask) : Bool := L.parts.all (fun p => p.fits a) && Ak.same (dropped L.parts a) { Ak.zero with code := a.code }
def outs (ps : List PK) (a : Ask) : List UInt8 := ps.flatMap fun p => p.out a
theorem dropped_take (ps : List PK) (a : Ask) (j : Nat) (h : j < ps.length) : dropped (ps.take (j + 1)) a = ps[j].drop (dropped (ps.take j) a) := by
  unfold dropped
  rw [List.take_succ_eq_append_getElem h, List.foldl_append]
  rfl
theorem outs_take (ps : List PK) (a : Ask) (j : Nat) (h : j < ps.length) : outs (ps.take (j + 1)) a = outs (ps.take j) a ++ ps[j].out a := by
  unfold outs
  rw [List.take_succ_eq_append_getElem h, List.flatMap_append]
  simp
theorem all_take (ps : List PK) (a : Ask) (j : Nat) (h : j < ps.length) : (ps.take (j + 1)).all (fun p => p.fits a) = ((ps.take j).all (fun p => p.fits a) && ps[j].fits a) := by
  rw [List.take_succ_eq_append_getElem h, List.all_append]
  simp
theorem all_not (ps : List PK) (a : Ask) (j : Nat) (h : j < ps.length) (hf : ps[j].fits a = false) : ps.all (fun p => p.fits a) = false := by
  rw [List.all_eq_false]
  exact ⟨_, List.getElem_mem h, by rw [hf]; simp⟩
end LK
end Go.Proofs.YtlgmjnjhdamknaaGreat

namespace Go.Proofs.YtlgmjnjhdamknaaGreat
open Go.RowKit Go.Shelf

theorem layOf_codes {c : Int} (h : c ∈ Ak.codes) : ∃ L, layOf c = some L := by
  simp only [Ak.codes, List.mem_cons, List.not_mem_nil, or_false] at h
  rcases h with rfl | rfl | rfl | rfl | rfl | rfl | rfl | rfl | rfl | rfl | rfl <;> exact ⟨_, rfl⟩
theorem layOf_not {c : Int} (hc : c ∉ Ak.codes) : layOf c = none := by
  simp only [Ak.codes, List.mem_cons, List.not_mem_nil, or_false, not_or] at hc
  obtain ⟨n1, n2, n3, n4, n5, n6, n15, n16, n22, n23, n43⟩ := hc
  unfold layOf
  simp only [n1, n2, n3, n4, n5, n6, n15, n16, n22, n23, n43, or_self, if_false]
theorem layOf_mem {c : Int} {L : LK} (h : layOf c = some L) : c ∈ Ak.codes := by
  by_cases hc : c ∈ Ak.codes
  · exact hc
  · rw [layOf_not hc] at h; cases h
theorem layOf_parts {c : Int} {L : LK} (h : layOf c = some L) : L.parts.length ≤ 4 ∧ 0 < L.begin_.length ∧ c ∈ Ak.codes := by
  have hc := layOf_mem h
  refine ⟨?_, ?_, hc⟩
  all_goals
    simp only [Ak.codes, List.mem_cons, List.not_mem_nil, or_false] at hc
    rcases hc with rfl | rfl | rfl | rfl | rfl | rfl | rfl | rfl | rfl | rfl | rfl
  all_goals
    cases h
    simp
theorem right_none {a : Ask} (h : layOf a.code = none) : Ak.right a = false := by
  have hc : a.code ∉ Ak.codes := fun hc => by
    obtain ⟨L, hL⟩ := layOf_codes hc
    rw [hL] at h; cases h
  unfold Ak.right Ak.formed Ak.isC
  rw [decide_eq_false hc]
  rfl
theorem len0 {α : Type} (l : List α) : (l = []) ↔ (l.length = 0) := List.length_eq_zero_iff.symm
theorem f_num (f : IF) (sz : Nat) (lo hi : Int) (a : Ask) : (PK.num f sz lo hi).fits a = true ↔ lo ≤ f.get a ∧ f.get a ≤ hi := by simp [PK.fits]
theorem f_mask (f : UF) (a : Ask) : (PK.mask f).fits a = true := rfl
theorem f_bit (a : Ask) : PK.bit.fits a = true ↔ a.bits.length = 1 := by simp [PK.fits]
theorem f_word (a : Ask) : PK.word.fits a = true ↔ a.words.length = 1 := by simp [PK.fits]
theorem f_bits (m : Nat) (a : Ask) : (PK.bits m).fits a = true ↔ 1 ≤ a.bits.length ∧ a.bits.length ≤ m := by simp [PK.fits]
theorem f_words (m : Nat) (a : Ask) : (PK.words m).fits a = true ↔ 1 ≤ a.words.length ∧ a.words.length ≤ m := by simp [PK.fits]
theorem i_addr (a : Ask) : IF.addr.get a = a.addr := rfl
theorem i_count (a : Ask) : IF.count.get a = a.count := rfl
theorem i_to (a : Ask) : IF.to.get a = a.to := rfl
set_option maxHeartbeats 2000000 in
theorem fits_formed {a : Ask} {L : LK} (h : layOf a.code = some L) : L.fits a = Ak.formed a := by
  have hc := layOf_mem h
  obtain ⟨code, addr, count, to, words, bits, and_, or_⟩ := a
  simp only [Ak.codes, List.mem_cons, List.not_mem_nil, or_false] at hc
  rw [Bool.eq_iff_iff]
  by_cases ha : and_ = 0 <;> by_cases ho : or_ = 0
  all_goals
    rcases hc with rfl | rfl | rfl | rfl | rfl | rfl | rfl | rfl | rfl | rfl | rfl
  all_goals
    cases h
    simp [LK.fits, LK.dropped, f_num, f_mask, f_bit, f_word, f_bits, f_words, i_addr, i_count, i_to, PK.drop, IF.set, UF.set, Ak.same, Ak.zero, Ak.formed, Ak.isC, Ak.codes, Ak.fits, Ak.most, ha, ho, len0, -List.length_eq_zero_iff]
  all_goals omega
theorem inside_placed {a : Ask} {L : LK} (h : layOf a.code = some L) (hf : Ak.formed a = true) : L.inside.ok a = Ak.placed a := by
  rw [Bool.eq_iff_iff]
  cases Ak.shape hf with
  | count c addr n hc h0 h1 n0 n1 =>
    rcases hc with rfl | rfl | rfl | rfl <;> cases h <;> simp [IK.ok, Ak.placed] <;> omega
  | five addr b h0 h1 => cases h; simp [IK.ok, Ak.placed]; omega
  | six addr x h0 h1 => cases h; simp [IK.ok, Ak.placed]; omega
  | bits addr l h0 h1 l0 l1 => cases h; simp [IK.ok, Ak.placed]; omega
  | words addr l h0 h1 l0 l1 => cases h; simp [IK.ok, Ak.placed]; omega
  | mask addr x y h0 h1 => cases h; simp [IK.ok, Ak.placed]; omega
  | both addr n to l h0 h1 n0 n1 t0 t1 l0 l1 => cases h; simp [IK.ok, Ak.placed]
  | ident addr n h0 h1 n0 n1 => cases h; simp [IK.ok, Ak.placed]
theorem right_some {a : Ask} {L : LK} (h : layOf a.code = some L) : Ak.right a = (L.fits a && L.inside.ok a) := by
  unfold Ak.right
  rw [fits_formed h]
  cases hf : Ak.formed a with
  | false => rfl
  | true => rw [inside_placed h hf]
theorem right_lay {a : Ask} (h : Ak.right a = true) : ∃ L, layOf a.code = some L := by
  cases hl : layOf a.code with
  | none => rw [right_none hl] at h; cases h
  | some L => exact ⟨L, rfl⟩
theorem fits_small {a : Ask} {L : LK} (h : layOf a.code = some L) : L.fits a = true → SmallA a := by
  rw [fits_formed h]
  intro hf
  cases Ak.shape hf with
  | count c addr n hc h0 h1 n0 n1 => exact ⟨h0, h1, by dsimp only; omega, by dsimp only; omega, by simp, by simp, by simp, by simp⟩
  | five addr b h0 h1 => exact ⟨h0, h1, by simp, by simp, by simp, by simp, by simp, by simp⟩
  | six addr x h0 h1 => exact ⟨h0, h1, by simp, by simp, by simp, by simp, by simp, by simp⟩
  | bits addr l h0 h1 l0 l1 => exact ⟨h0, h1, by simp, by simp, by simp, by simp, by simp, by dsimp only; omega⟩
  | words addr l h0 h1 l0 l1 => exact ⟨h0, h1, by simp, by simp, by simp, by simp, by dsimp only; omega, by simp⟩
  | mask addr x y h0 h1 => exact ⟨h0, h1, by simp, by simp, by simp, by simp, by simp, by simp⟩
  | both addr n to l h0 h1 n0 n1 t0 t1 l0 l1 => exact ⟨h0, h1, by dsimp only; omega, by dsimp only; omega, t0, t1, by dsimp only; omega, by simp⟩
  | ident addr n h0 h1 n0 n1 => exact ⟨h0, by dsimp only; omega, by dsimp only; omega, by dsimp only; omega, by simp, by simp, by simp, by simp⟩

theorem low_two (m : Nat) (h : m < 65536) : low (UInt16.ofNat m) 2 = [UInt8.ofNat (m / 256), UInt8.ofNat (m % 256)] := by
  unfold low Word.two
  rw [UInt16.toNat_ofNat', Nat.mod_eq_of_lt (show m < 2 ^ 16 by omega)]
  rfl
theorem low_one (m : Nat) (h : m < 256) : low (UInt16.ofNat m) 1 = [UInt8.ofNat m] := by
  unfold low Word.two
  rw [UInt16.toNat_ofNat', Nat.mod_eq_of_lt (show m < 2 ^ 16 by omega)]
  show [UInt8.ofNat (m % 256)] = _
  rw [Nat.mod_eq_of_lt h]
theorem low_on : low 65280 2 = [255, 0] := by decide
theorem low_off : low 0 2 = [0, 0] := by decide
theorem low_int (n : Int) (h0 : 0 ≤ n) (h1 : n ≤ 65535) : low (UInt16.ofNat n.toNat) 2 = [Ak.hi n, Ak.lo n] := low_two n.toNat (by omega)
theorem low_nat (n : Nat) (h1 : n ≤ 65535) : low (UInt16.ofNat n) 2 = [Ak.hi (n : Int), Ak.lo (n : Int)] := low_two n (by omega)
theorem outs_two (p q : PK) (a : Ask) : LK.outs [p, q] a = p.out a ++ q.out a := by simp [LK.outs]
theorem outs_three (p q r : PK) (a : Ask) : LK.outs [p, q, r] a = p.out a ++ (q.out a ++ r.out a) := by simp [LK.outs]
theorem outs_four (p q r s : PK) (a : Ask) : LK.outs [p, q, r, s] a = p.out a ++ (q.out a ++ (r.out a ++ s.out a)) := by simp [LK.outs]
theorem o_num (f : IF) (sz : Nat) (lo hi : Int) (a : Ask) : (PK.num f sz lo hi).out a = low (UInt16.ofNat (f.get a).toNat) sz := rfl
theorem o_mask (f : UF) (a : Ask) : (PK.mask f).out a = low (f.get a) 2 := rfl
theorem o_bit (a : Ask) : PK.bit.out a = low (if a.bits.getD 0 false then 65280 else 0) 2 := rfl
theorem o_word (a : Ask) : PK.word.out a = low (a.words.getD 0 0) 2 := rfl
theorem o_bits (m : Nat) (a : Ask) : (PK.bits m).out a = low (UInt16.ofNat a.bits.length) 2 ++ (low (UInt16.ofNat ((a.bits.length + 7) / 8)) 1 ++ Word.pack a.bits) := rfl
theorem o_words (m : Nat) (a : Ask) : (PK.words m).out a = low (UInt16.ofNat a.words.length) 2 ++ (low (UInt16.ofNat (2 * a.words.length)) 1 ++ Word.bytes a.words) := rfl
theorem fits_text {a : Ask} {L : LK} (h : layOf a.code = some L) (hf : Ak.formed a = true) : L.begin_ ++ LK.outs L.parts a = Ak.text a := by
  cases Ak.shape hf with
  | count c addr n hc h0 h1 n0 n1 =>
    rw [Ak.text_count c hc]
    rcases hc with rfl | rfl | rfl | rfl <;> cases h <;> dsimp only <;> rw [outs_two, o_num, o_num, i_addr, i_count, low_int addr h0 h1, low_int n (by omega) (by omega)] <;> rfl
  | five addr b h0 h1 =>
    rw [Ak.text_five]
    cases h
    dsimp only
    rw [outs_two, o_num, o_bit, i_addr, low_int addr h0 h1]
    cases b <;> simp [low_on, low_off]
  | six addr x h0 h1 =>
    rw [Ak.text_six]
    cases h
    dsimp only
    rw [outs_two, o_num, o_word, i_addr, low_int addr h0 h1]
    rfl
  | bits addr l h0 h1 l0 l1 =>
    rw [Ak.text_bits]
    cases h
    dsimp only
    rw [outs_two, o_num, o_bits, i_addr, low_int addr h0 h1]
    dsimp only
    rw [low_nat l.length (by omega), low_one _ (by omega), Word.pack_length]
    rfl
  | words addr l h0 h1 l0 l1 =>
    rw [Ak.text_words]
    cases h
    dsimp only
    rw [outs_two, o_num, o_words, i_addr, low_int addr h0 h1]
    dsimp only
    rw [low_nat l.length (by omega), low_one _ (by omega), Word.bytes_length]
    rfl
  | mask addr x y h0 h1 =>
    rw [Ak.text_mask]
    cases h
    dsimp only
    rw [outs_three, o_num, o_mask, o_mask, i_addr, low_int addr h0 h1]
    rfl
  | both addr n to l h0 h1 n0 n1 t0 t1 l0 l1 =>
    rw [Ak.text_both]
    cases h
    dsimp only
    rw [outs_four, o_num, o_num, o_num, o_words, i_addr, i_count, i_to, low_int addr h0 h1, low_int n (by omega) (by omega), low_int to t0 t1]
    dsimp only
    rw [low_nat l.length (by omega), low_one _ (by omega), Word.bytes_length]
    rfl
  | ident addr n h0 h1 n0 n1 =>
    rw [Ak.text_ident]
    cases h
    dsimp only
    rw [outs_two, o_num, o_num, i_addr, i_count]
    dsimp only
    rw [low_one _ (by omega), low_one _ (by omega)]
    rfl
theorem right_text {a : Ask} {L : LK} (h : layOf a.code = some L) (hr : Ak.right a = true) : (∀ p ∈ L.parts, p.fits a = true) ∧ L.begin_ ++ LK.outs L.parts a = Ak.text a ∧ (Ak.text a).length ≤ 10000 := by
  unfold Ak.right at hr
  rw [Bool.and_eq_true] at hr
  refine ⟨?_, fits_text h hr.1, by have := (Ak.text_span (Ak.shape hr.1)).2.2; omega⟩
  have hf := fits_formed h
  rw [hr.1] at hf
  unfold LK.fits at hf
  rw [Bool.and_eq_true] at hf
  exact fun p hp => List.all_eq_true.1 hf.1 p hp
end Go.Proofs.YtlgmjnjhdamknaaGreat

namespace Go.Proofs.YtlgmjnjhdamknaaGreat
open Go.RowKit

attribute [local go_sem ↓] Go.wp_at_zero Go.wp_at_succ

theorem lies_set {α : Type} {f : α → Value} {w : World} {A : Option Addr} {g : Nat} {l : List α} (h : Lies f w A l) (hne : ∀ b o s, A = some ⟨b, o, s⟩ → 0 < l.length → b ≠ g) (i : Nat) (v : Value) : Lies f (w.setCell ⟨g, i, none⟩ v) A l := by
  intro j hj
  obtain ⟨b, off, rfl, hc⟩ := h j hj
  exact ⟨b, off, rfl, (cell_far (hne _ _ _ rfl (by omega)) v).trans hc⟩
theorem lies_low {α : Type} {f : α → Value} {w w' : World} {A : Option Addr} {B : Nat} {l : List α} (h : Lies f w A l) (hlt : ∀ b o s, A = some ⟨b, o, s⟩ → 0 < l.length → b < B) (hb : Below B w w') : Lies f w' A l := by
  intro j hj
  obtain ⟨b, off, rfl, hc⟩ := h j hj
  exact ⟨b, off, rfl, (World.cell?_of_block (w := w) (a := ⟨b, off + j, none⟩) (hb.block b (hlt _ _ _ rfl (by omega)))).trans hc⟩
theorem own_set {w : World} {B e k n g i : Nat} {v : Value} {xs : List Value} (h : w.ownsRow B e k v n xs) (hg : g < B) (x : Value) : (w.setCell ⟨g, i, none⟩ x).ownsRow B e k v n xs := by
  refine ⟨h.1, ?_⟩
  rcases h.2 with h' | ⟨g', cap, cur, rfl, hbg, hgg, rest⟩
  · exact .inl h'
  · exact .inr ⟨g', cap, cur, rfl, hbg, row_set_far hgg (by omega) x, rest⟩
theorem half_pow (x k : Nat) : x / 2 ^ (k + 1) = x / 2 ^ k / 2 := by rw [Nat.pow_succ, Nat.div_div_eq_div_mul]
theorem half_beq (x : Nat) : ((x : Int) % 2 == 1) = decide (x % 2 = 1) := by
  rcases Nat.mod_two_eq_zero_or_one x with h | h
  · rw [h, beq_eq_false_iff_ne.2 (by omega)]; rfl
  · rw [h, beq_iff_eq.2 (by omega)]; rfl
theorem Word.bitsOf_succ' (b : List UInt8) (j : Nat) : Word.bitsOf b (j + 1) = Word.bitsOf b j ++ [Word.bitAt b j] := by
  unfold Word.bitsOf
  rw [List.range_succ, List.map_append, List.map_cons, List.map_nil]
end Go.Proofs.YtlgmjnjhdamknaaGreat

namespace Go.Proofs.YtlgmjnjhdamknaaGreat
open Go.RowKit

end Go.Proofs.YtlgmjnjhdamknaaGreat

namespace Go.Proofs.YtlgmjnjhdamknaaGreat
open Go.RowKit Go.Shelf

theorem AskIn.lth {w : World} {a : Ask} {h k : Option Addr × Nat × Nat} (x : AskIn w a h k) : (∀ b o s, h.1 = some ⟨b, o, s⟩ → 0 < h.2.1 → b < w.heap.size) ∧ (∀ b o s, k.1 = some ⟨b, o, s⟩ → 0 < k.2.1 → b < w.heap.size) := by
  refine ⟨fun b o s e h0 => ?_, fun b o s e h0 => ?_⟩
  · obtain ⟨b', o', e', hb, _⟩ := x.hl.at_ (by rw [x.hn]; exact h0)
    rw [e] at e'
    cases e'
    exact hb
  · obtain ⟨b', o', e', hb, _⟩ := x.kl.at_ (by rw [x.kn]; exact h0)
    rw [e] at e'
    cases e'
    exact hb
set_option maxRecDepth 100000 in
set_option maxHeartbeats 1000000 in
theorem fits6_any (lo : Nat) (w0 W : World) (L : LK) (hps : L.parts.length ≤ 4) (v : Value) (hL : LayIn lo w0 L v) (hW : Below w0.heap.size w0 W) (a : Ask) (h k : Option Addr × Nat × Nat) (ha : AskIn W a h k) :
    Calls Tryz.prog 63 #[v, askV a h k] W fun e w' => e = .returned (.bool (L.fits a)) ∧ Below W.heap.size W w' := by
  obtain ⟨A, n, c, b, m, g, pvs, rfl, h1, h2, h3, h4, h5, h6, h7, h8, h9, h10⟩ := hL.since (Since.of_below hW)
  have hpl := h10.length
  -- the worlds behind the boxes
  have hbA : Below W.heap.size W ((W.alloc (.cells #[.slice A n c, .slice (some ⟨b, 0, none⟩) m m, .func (.func g) #[] #[]] 98)).alloc (.cells #[.int .i64 a.code, .int .i64 a.addr, .int .i64 a.count, .int .i64 a.to, .slice h.1 h.2.1 h.2.2, .slice k.1 k.2.1 k.2.2, u16v a.and_, u16v a.or_] 40)) := ((Below.refl _ W).alloc (zq _) _).alloc (by simp) _
  have hrl := row_at W #[.slice A n c, .slice (some ⟨b, 0, none⟩) m m, .func (.func g) #[] #[]] 98 W.heap.size rfl
  have hrl := old_at hrl (.cells #[.int .i64 a.code, .int .i64 a.addr, .int .i64 a.count, .int .i64 a.to, .slice h.1 h.2.1 h.2.2, .slice k.1 k.2.1 k.2.2, u16v a.and_, u16v a.or_] 40)
  have hra := row_at (W.alloc (.cells #[.slice A n c, .slice (some ⟨b, 0, none⟩) m m, .func (.func g) #[] #[]] 98)) #[.int .i64 a.code, .int .i64 a.addr, .int .i64 a.count, .int .i64 a.to, .slice h.1 h.2.1 h.2.2, .slice k.1 k.2.1 k.2.2, u16v a.and_, u16v a.or_] 40 (W.heap.size + 1) (by simp)
  have hsz : ((W.alloc (.cells #[.slice A n c, .slice (some ⟨b, 0, none⟩) m m, .func (.func g) #[] #[]] 98)).alloc (.cells #[.int .i64 a.code, .int .i64 a.addr, .int .i64 a.count, .int .i64 a.to, .slice h.1 h.2.1 h.2.2, .slice k.1 k.2.1 k.2.2, u16v a.and_, u16v a.or_] 40)).heap.size = W.heap.size + 1 + 1 := by simp
  rw [askV_eq]
  go_enter Tryz.func63, Tryz.ntmps63
  go_wp2_with fail
  generalize hW2 : ((W.alloc (.cells #[.slice A n c, .slice (some ⟨b, 0, none⟩) m m, .func (.func g) #[] #[]] 98)).alloc (.cells #[.int .i64 a.code, .int .i64 a.addr, .int .i64 a.count, .int .i64 a.to, .slice h.1 h.2.1 h.2.2, .slice k.1 k.2.1 k.2.2, u16v a.and_, u16v a.or_] 40)) = W2 at *
  have hr8 := row_later h8 hbA
  have hpa := h10.since (Since.of_below hbA)
  have ha2 := ha.below hbA
  have hlt := ha.lth
  have hH : Hid (W2.heap.size = W.heap.size + 1 + 1) := qh hsz
  have hx0 : AskAt (W2.alloc (.cells #[.int .i64 a.code, .int .i64 a.addr, .int .i64 a.count, .int .i64 a.to, .slice h.1 h.2.1 h.2.2, .slice k.1 k.2.1 k.2.2, u16v a.and_, u16v a.or_] 40)) (W.heap.size + 1 + 1) (fun b => b = W.heap.size + 1 + 1) a h k :=
    ⟨row_at W2 _ _ _ hsz, ha2.below ((Below.refl _ _).alloc (zq _) _), rfl, fun b hs => by have hs' : b = W.heap.size + 1 + 1 := hs; simp only [World.size_alloc]; omega, fun b o s e h0 hs => by have hs' : b = W.heap.size + 1 + 1 := hs; have := hlt.1 b o s e h0; omega, fun b o s e h0 hs => by have hs' : b = W.heap.size + 1 + 1 := hs; have := hlt.2 b o s e h0; omega⟩
  have hbe0 : Below W2.heap.size W2 (W2.alloc (.cells #[.int .i64 a.code, .int .i64 a.addr, .int .i64 a.count, .int .i64 a.to, .slice h.1 h.2.1 h.2.2, .slice k.1 k.2.1 k.2.2, u16v a.and_, u16v a.or_] 40)) := (Below.refl _ _).alloc (zq _) _
  clear hW2 hsz h8 h10 h5 h6 h7 h3 h4 h1 hL hlt
  have HFit : Hid (L.fits a = (L.parts.all (fun p => p.fits a) && Ak.same (LK.dropped L.parts a) { Ak.zero with code := a.code })) := qh rfl
  have HM := qh h2
  have HPL := qh hpl
  have hm4 : m ≤ 4 := by omega
  clear h2 hpl hps
  go_loopw [7, 12] (fun _ i wr => ∃ j : Nat, j ≤ m ∧ i = .int .i64 j ∧ ∃ h' k', AskAt wr (W.heap.size + 1 + 1) (fun b => b = W.heap.size + 1 + 1) (LK.dropped (L.parts.take j) a) h' k' ∧ Hid ((L.parts.take j).all (fun p => p.fits a) = true) ∧ Below W2.heap.size W2 wr) (fun _ i _ => m - (intOf i).toNat)
  case atStart => exact ⟨0, Nat.zero_le _, rfl, h, k, hx0, qh rfl, hbe0⟩
  case round =>
    clear hx0 hbe0
    obtain ⟨j, hj, rfl, h', k', hx, HA, hbe⟩ := hrel
    have z2 := hbe.size
    have hl1 : W.heap.size + 1 < wr.heap.size := row_lt (row_later hra hbe)
    obtain ⟨r0, r1, r2, r3, r4, r5, r6, r7⟩ := row_eight (row_later hra hbe)
    by_cases hjm : j < m
    · have hj1 : j < L.parts.length := by have := HM.out; omega
      have hj2 : j < pvs.length := by have := HPL.out; omega
      have P := hpa.get j hj1 hj2 W2 (Since.refl _ _)
      have hrow := row_later hr8 hbe
      have hcl : ∀ i, i < 4 → wr.cell? ⟨b, 4 * j + i, none⟩ = pvs[j].cells[i]? := fun i hi => by
        rw [cell_of_row _ _ _ _ _ _ hrow, ← PV.cells_get pvs j i hj2 hi]
        simp
      have HD := qh (LK.dropped_take L.parts a j hj1)
      have HAT := qh (LK.all_take L.parts a j hj1)
      have HNO := qh (LK.all_not L.parts a j hj1)
      generalize L.parts[j] = p at *
      generalize pvs[j] = v at *
      obtain ⟨g1, g2, g3, g4, l1, l2, l3, l4⟩ := v
      have e0 : wr.cell? ⟨b, j * 4, none⟩ = some (.func (.func g1) #[] l1) := by have := hcl 0 (by omega); rw [Nat.mul_comm] at this; exact this
      have e1 : wr.cell? ⟨b, j * 4 + 1, none⟩ = some (.func (.func g2) #[] l2) := by have := hcl 1 (by omega); rw [Nat.mul_comm] at this; exact this
      have e2 : wr.cell? ⟨b, j * 4 + 2, none⟩ = some (.func (.func g3) #[] l3) := by have := hcl 2 (by omega); rw [Nat.mul_comm] at this; exact this
      have e3 : wr.cell? ⟨b, j * 4 + 3, none⟩ = some (.func (.func g4) #[] l4) := by have := hcl 3 (by omega); rw [Nat.mul_comm] at this; exact this
      have eg1 := P.e1
      have eg4 := P.e4
      unfold Enters at eg1 eg4
      dsimp only at eg1 eg4
      have HC1 : Hid (∀ X, Below W2.heap.size W2 X → Calls Tryz.prog g1 (#[.agg #[.int .i64 a.code, .int .i64 a.addr, .int .i64 a.count, .int .i64 a.to, .slice h.1 h.2.1 h.2.2, .slice k.1 k.2.1 k.2.2, u16v a.and_, u16v a.or_]] ++ l1) X fun e w' => e = .returned (.bool (p.fits a)) ∧ Below X.heap.size X w') := qh (fun X hX => P.c1 X hX a h k (ha2.below hX))
      have HC4 := qh P.c4
      dsimp only at HC4
      have i1 : (j : Int) < (m : Int) := by omega
      have hbp : Below W2.heap.size W2 (wr.alloc (.cells #[.func (.func g1) #[] l1, .func (.func g2) #[] l2, .func (.func g3) #[] l3, .func (.func g4) #[] l4] 122)) := hbe.alloc z2 _
      have hrp := row_at wr #[.func (.func g1) #[] l1, .func (.func g2) #[] l2, .func (.func g3) #[] l3, .func (.func g4) #[] l4] 122 wr.heap.size rfl
      have hxp := hx.below ((Below.refl _ wr).alloc (zq _) (.cells #[.func (.func g1) #[] l1, .func (.func g2) #[] l2, .func (.func g3) #[] l3, .func (.func g4) #[] l4] 122))
      clear hcl hrow P hx
      cases hf : p.fits a with
      | false =>
        have HF := qh hf
        rw [hf] at HC1
        clear hf
        go_wp2_with (first | (go_at_fn g1; refine (HC1.out _ hbp).mono ?_; rintro e w3 ⟨rfl, hb3⟩) | fail)
        go_ret
        refine ⟨?_, hbA.trans ((hbp.trans (hb3.mono hbp.size)).mono hbA.size)⟩
        rw [HFit.out, HNO.out HF.out]
        rfl
      | true =>
        have HF := qh hf
        rw [hf] at HC1
        clear hf
        go_wp2_with (first | (go_at_fn g1; refine (HC1.out _ hbp).mono ?_; rintro e w3 ⟨rfl, hb3⟩; have hrp3 := row_four (row_later hrp hb3); obtain ⟨y0, y1, y2, y3, _⟩ := hrp3; have hx3 := hxp.below hb3; have hb3' := hbp.trans (hb3.mono hbp.size)) | (go_at_fn g4; refine (HC4.out _ hb3' _ _ _ _ _ (by rw [hH.out]; exact zq _) hx3).mono ?_; rintro e w4 ⟨⟨vv, rfl⟩, h4', k4', hx4, hb4⟩) | fail)
        go_roundw
        case rel =>
          refine ⟨j + 1, by omega, by go_num, h4', k4', ?_, qh ?_, ?_⟩
          · rw [HD.out]; exact hx4
          · rw [HAT.out, HA.out, HF.out]; rfl
          · exact hb3'.trans (hb4.below (fun k hk => by rw [List.mem_singleton.1 hk, hH.out]; exact zq _) (by have := hb3'.size; omega))
        case measure => simp [intOf]; omega
    · obtain rfl : j = m := by omega
      have HTK : Hid (L.parts.take j = L.parts) := qh (by rw [← HM.out, List.take_length])
      rw [HTK.out] at hx HA
      have hz := hbe.size
      obtain ⟨s0, s1, s2, s3, s4, s5, s6, s7⟩ := row_eight hx.row
      have hz0 : AskIn wr { Ak.zero with code := a.code } (none, 0, 0) (none, 0, 0) := ⟨rfl, zq _, Nat.zero_le _, Lies.nil _ _, rfl, zq _, Nat.zero_le _, Lies.nil _ _⟩
      have HS : Hid (Calls Tryz.prog 106 #[askV (LK.dropped L.parts a) h' k', askV { Ak.zero with code := a.code } (none, 0, 0) (none, 0, 0)] wr fun e w' => e = .returned (.bool (L.fits a)) ∧ Below wr.heap.size wr w') := qh (by
        have hs := same6_any (LK.dropped L.parts a) { Ak.zero with code := a.code } h' k' (none, 0, 0) (none, 0, 0) wr hx.ins hz0
        rw [HFit.out, HA.out, Bool.true_and]
        exact hs)
      rw [askV_eq, show askV { Ak.zero with code := a.code } (none, 0, 0) (none, 0, 0) = .agg #[.int .i64 a.code, .int .i64 0, .int .i64 0, .int .i64 0, .slice none 0 0, .slice none 0 0, .int .u16 0, .int .u16 0] from rfl] at HS
      clear HFit HA hx HTK
      generalize LK.dropped L.parts a = D at *
      go_wp2_with fail
      refine HS.out.mono ?_
      rintro e w3 ⟨rfl, hb3⟩
      go_wp2_with fail
      go_ret
      exact ⟨rfl, hbA.trans ((hbe.trans (hb3.mono hbe.size)).mono hbA.size)⟩
end Go.Proofs.YtlgmjnjhdamknaaGreat
