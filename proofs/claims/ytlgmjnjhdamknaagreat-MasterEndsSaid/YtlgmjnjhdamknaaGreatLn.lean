
/-
  The landed ask: layoutOf, of any code; what the layouts' loops make of a request (the mathematics).
-/
import Derived.Test.YtlgmjnjhdamknaaGreatLz
import Derived.Test.YtlgmjnjhdamknaaGreatAkm
namespace Go.Proofs.YtlgmjnjhdamknaaGreat
open Go.RowKit Go.Shelf

set_option maxRecDepth 100000 in
set_option maxHeartbeats 1000000 in
theorem lay_none (c : Int) (hc : c ∉ Ak.codes) (w : World) : Calls Tryz.prog 42 #[.int .i64 c] w (LayPost w c) := by
  simp only [Ak.codes, List.mem_cons, List.not_mem_nil, or_false, not_or] at hc
  obtain ⟨n1, n2, n3, n4, n5, n6, n15, n16, n22, n23, n43⟩ := hc
  have HL : Hid (layOf c = none) := Lib.hid (by unfold layOf; simp only [n1, n2, n3, n4, n5, n6, n15, n16, n22, n23, n43, or_self, if_false])
  have e1 : (c == 1) = false := beq_eq_false_iff_ne.2 n1
  have e2 : (c == 2) = false := beq_eq_false_iff_ne.2 n2
  have e3 : (c == 3) = false := beq_eq_false_iff_ne.2 n3
  have e4 : (c == 4) = false := beq_eq_false_iff_ne.2 n4
  have e5 : (c == 5) = false := beq_eq_false_iff_ne.2 n5
  have e6 : (c == 6) = false := beq_eq_false_iff_ne.2 n6
  have e15 : (c == 15) = false := beq_eq_false_iff_ne.2 n15
  have e16 : (c == 16) = false := beq_eq_false_iff_ne.2 n16
  have e22 : (c == 22) = false := beq_eq_false_iff_ne.2 n22
  have e23 : (c == 23) = false := beq_eq_false_iff_ne.2 n23
  have e43 : (c == 43) = false := beq_eq_false_iff_ne.2 n43
  clear n1 n2 n3 n4 n5 n6 n15 n16 n22 n23 n43
  go_enter Tryz.func42, Tryz.ntmps42
  go_wp2_with fail
  refine bodyPost_ret_by (v := .tuple #[.agg #[.slice none 0 0, .slice none 0 0, .nilFunc], .bool false]) (by simp [results, Tryz.f42, go_sem]) rfl ?_
  refine ⟨?_, ?_⟩
  · exact ((Below.refl _ _).alloc (Nat.le_refl _) _).alloc (by simp) _
  · rw [HL.out]

theorem layoutOf_any (c : Int) (w : World) : Calls Tryz.prog 42 #[.int .i64 c] w (LayPost w c) := by
  by_cases hc : c ∈ Ak.codes
  · simp only [Ak.codes, List.mem_cons, List.not_mem_nil, or_false] at hc
    rcases hc with rfl | rfl | rfl | rfl | rfl | rfl | rfl | rfl | rfl | rfl | rfl
    · exact lay1 w
    · exact lay2 w
    · exact lay3 w
    · exact lay4 w
    · exact lay5 w
    · exact lay6 w
    · exact lay15 w
    · exact lay16 w
    · exact lay22 w
    · exact lay23 w
    · exact lay43 w
  · exact lay_none c hc w

namespace LK
def dropped (ps : List PK) (a : Ask) : Ask := ps.foldl (fun a p => p.drop a) a
def fits (L : LK) (a : Ask) : Bool := L.parts.all (fun p => p.fits a) && Ak.same (dropped L.parts a) { Ak.zero with code := a.code }
def outs (ps : List PK) (a : Ask) : List UInt8 := ps.flatMap fun p => p.out a
def reads : List PK → List UInt8 → Ask → Option (List UInt8 × Ask)
  | [], b, a => some (b, a)
  | p :: ps, b, a => match p.read b a with | none => none | some (r, a') => reads ps r a'
def readAll (L : LK) (b : List UInt8) : Option Ask :=
  if L.begin_.isPrefixOf b then (match reads L.parts (b.drop L.begin_.length) { Ak.zero with code := ((L.begin_.getD 0 0).toNat : Nat) } with | some ([], a) => some a | _ => none) else none
theorem dropped_take (ps : List PK) (a : Ask) (j : Nat) (h : j < ps.length) : dropped (ps.take (j + 1)) a = ps[j].drop (dropped (ps.take j) a) := by
  unfold dropped
  rw [List.take_succ_eq_append_getElem h, List.foldl_append]
  rfl
theorem outs_take (ps : List PK) (a : Ask) (j : Nat) (h : j < ps.length) : outs (ps.take (j + 1)) a = outs (ps.take j) a ++ ps[j].out a := by
  unfold outs
  rw [List.take_succ_eq_append_getElem h, List.flatMap_append]
  simp
theorem all_take (ps : List PK) (a : Ask) (j : Nat) (h : j < ps.length) : (ps.take (j + 1)).all (fun p => p.fits a) = ((ps.take j).all (fun p => p.fits a) && ps[j].fits a) := by
  rw [List.take_succ_eq_append_getElem h, List.all_append]
  simp
theorem all_not (ps : List PK) (a : Ask) (j : Nat) (h : j < ps.length) (hf : ps[j].fits a = false) : ps.all (fun p => p.fits a) = false := by
  rw [List.all_eq_false]
  exact ⟨_, List.getElem_mem h, by rw [hf]; simp⟩
theorem reads_cons (p : PK) (ps : List PK) (b : List UInt8) (a : Ask) : reads (p :: ps) b a = match p.read b a with | none => none | some (r, a') => reads ps r a' := rfl
theorem reads_append (ps qs : List PK) (b : List UInt8) (a : Ask) : reads (ps ++ qs) b a = match reads ps b a with | none => none | some (r, a') => reads qs r a' := by
  induction ps generalizing b a with
  | nil => rfl
  | cons p ps ih =>
    rw [List.cons_append, reads_cons, reads_cons]
    cases p.read b a with
    | none => rfl
    | some x => exact ih _ _
theorem reads_take (ps : List PK) (b : List UInt8) (a : Ask) (j : Nat) (h : j < ps.length) : reads (ps.take (j + 1)) b a = match reads (ps.take j) b a with | none => none | some (r, a') => ps[j].read r a' := by
  rw [List.take_succ_eq_append_getElem h, reads_append]
  cases reads (ps.take j) b a with
  | none => rfl
  | some x =>
    obtain ⟨r, a'⟩ := x
    show reads [ps[j]] r a' = ps[j].read r a'
    rw [reads_cons]
    cases ps[j].read r a' with
    | none => rfl
    | some y => rfl
theorem reads_none (ps : List PK) (b : List UInt8) (a : Ask) (j : Nat) (h : reads (ps.take j) b a = none) : reads ps b a = none := by
  rw [← List.take_append_drop j ps, reads_append, h]
end LK
end Go.Proofs.YtlgmjnjhdamknaaGreat

/-
  The landed ask: the layouts make of requests what the document does (the mathematics).
-/
namespace Go.Proofs.YtlgmjnjhdamknaaGreat
open Go.RowKit Go.Shelf

theorem layOf_codes {c : Int} (h : c ∈ Ak.codes) : ∃ L, layOf c = some L := by
  simp only [Ak.codes, List.mem_cons, List.not_mem_nil, or_false] at h
  rcases h with rfl | rfl | rfl | rfl | rfl | rfl | rfl | rfl | rfl | rfl | rfl <;> exact ⟨_, rfl⟩
theorem layOf_not {c : Int} (hc : c ∉ Ak.codes) : layOf c = none := by
  simp only [Ak.codes, List.mem_cons, List.not_mem_nil, or_false, not_or] at hc
  obtain ⟨n1, n2, n3, n4, n5, n6, n15, n16, n22, n23, n43⟩ := hc
  unfold layOf
  simp only [n1, n2, n3, n4, n5, n6, n15, n16, n22, n23, n43, or_self, if_false]
theorem layOf_mem {c : Int} {L : LK} (h : layOf c = some L) : c ∈ Ak.codes := by
  by_cases hc : c ∈ Ak.codes
  · exact hc
  · rw [layOf_not hc] at h; cases h
theorem layOf_parts {c : Int} {L : LK} (h : layOf c = some L) : L.parts.length ≤ 4 ∧ 0 < L.begin_.length ∧ c ∈ Ak.codes := by
  have hc := layOf_mem h
  refine ⟨?_, ?_, hc⟩
  all_goals
    simp only [Ak.codes, List.mem_cons, List.not_mem_nil, or_false] at hc
    rcases hc with rfl | rfl | rfl | rfl | rfl | rfl | rfl | rfl | rfl | rfl | rfl
  all_goals
    cases h
    simp
theorem right_none {a : Ask} (h : layOf a.code = none) : Ak.right a = false := by
  have hc : a.code ∉ Ak.codes := fun hc => by
    obtain ⟨L, hL⟩ := layOf_codes hc
    rw [hL] at h; cases h
  unfold Ak.right Ak.formed Ak.isC
  rw [decide_eq_false hc]
  rfl
theorem len0 {α : Type} (l : List α) : (l = []) ↔ (l.length = 0) := List.length_eq_zero_iff.symm
theorem f_num (f : IF) (sz : Nat) (lo hi : Int) (a : Ask) : (PK.num f sz lo hi).fits a = true ↔ lo ≤ f.get a ∧ f.get a ≤ hi := by simp [PK.fits]
theorem f_mask (f : UF) (a : Ask) : (PK.mask f).fits a = true := rfl
theorem f_bit (a : Ask) : PK.bit.fits a = true ↔ a.bits.length = 1 := by simp [PK.fits]
theorem f_word (a : Ask) : PK.word.fits a = true ↔ a.words.length = 1 := by simp [PK.fits]
theorem f_bits (m : Nat) (a : Ask) : (PK.bits m).fits a = true ↔ 1 ≤ a.bits.length ∧ a.bits.length ≤ m := by simp [PK.fits]
theorem f_words (m : Nat) (a : Ask) : (PK.words m).fits a = true ↔ 1 ≤ a.words.length ∧ a.words.length ≤ m := by simp [PK.fits]
theorem i_addr (a : Ask) : IF.addr.get a = a.addr := rfl
theorem i_count (a : Ask) : IF.count.get a = a.count := rfl
theorem i_to (a : Ask) : IF.to.get a = a.to := rfl
set_option maxHeartbeats 2000000 in
theorem fits_formed {a : Ask} {L : LK} (h : layOf a.code = some L) : L.fits a = Ak.formed a := by
  have hc := layOf_mem h
  obtain ⟨code, addr, count, to, words, bits, and_, or_⟩ := a
  simp only [Ak.codes, List.mem_cons, List.not_mem_nil, or_false] at hc
  rw [Bool.eq_iff_iff]
  by_cases ha : and_ = 0 <;> by_cases ho : or_ = 0
  all_goals
    rcases hc with rfl | rfl | rfl | rfl | rfl | rfl | rfl | rfl | rfl | rfl | rfl
  all_goals
    cases h
    simp [LK.fits, LK.dropped, f_num, f_mask, f_bit, f_word, f_bits, f_words, i_addr, i_count, i_to, PK.drop, IF.set, UF.set, Ak.same, Ak.zero, Ak.formed, Ak.isC, Ak.codes, Ak.fits, Ak.most, ha, ho, len0, -List.length_eq_zero_iff]
  all_goals omega
theorem inside_placed {a : Ask} {L : LK} (h : layOf a.code = some L) (hf : Ak.formed a = true) : L.inside.ok a = Ak.placed a := by
  rw [Bool.eq_iff_iff]
  cases Ak.shape hf with
  | count c addr n hc h0 h1 n0 n1 =>
    rcases hc with rfl | rfl | rfl | rfl <;> cases h <;> simp [IK.ok, Ak.placed] <;> omega
  | five addr b h0 h1 => cases h; simp [IK.ok, Ak.placed]; omega
  | six addr x h0 h1 => cases h; simp [IK.ok, Ak.placed]; omega
  | bits addr l h0 h1 l0 l1 => cases h; simp [IK.ok, Ak.placed]; omega
  | words addr l h0 h1 l0 l1 => cases h; simp [IK.ok, Ak.placed]; omega
  | mask addr x y h0 h1 => cases h; simp [IK.ok, Ak.placed]; omega
  | both addr n to l h0 h1 n0 n1 t0 t1 l0 l1 => cases h; simp [IK.ok, Ak.placed]
  | ident addr n h0 h1 n0 n1 => cases h; simp [IK.ok, Ak.placed]
theorem right_some {a : Ask} {L : LK} (h : layOf a.code = some L) : Ak.right a = (L.fits a && L.inside.ok a) := by
  unfold Ak.right
  rw [fits_formed h]
  cases hf : Ak.formed a with
  | false => rfl
  | true => rw [inside_placed h hf]
theorem right_lay {a : Ask} (h : Ak.right a = true) : ∃ L, layOf a.code = some L := by
  cases hl : layOf a.code with
  | none => rw [right_none hl] at h; cases h
  | some L => exact ⟨L, rfl⟩
theorem fits_small {a : Ask} {L : LK} (h : layOf a.code = some L) : L.fits a = true → SmallA a := by
  rw [fits_formed h]
  intro hf
  cases Ak.shape hf with
  | count c addr n hc h0 h1 n0 n1 => exact ⟨h0, h1, by dsimp only; omega, by dsimp only; omega, by simp, by simp, by simp, by simp⟩
  | five addr b h0 h1 => exact ⟨h0, h1, by simp, by simp, by simp, by simp, by simp, by simp⟩
  | six addr x h0 h1 => exact ⟨h0, h1, by simp, by simp, by simp, by simp, by simp, by simp⟩
  | bits addr l h0 h1 l0 l1 => exact ⟨h0, h1, by simp, by simp, by simp, by simp, by simp, by dsimp only; omega⟩
  | words addr l h0 h1 l0 l1 => exact ⟨h0, h1, by simp, by simp, by simp, by simp, by dsimp only; omega, by simp⟩
  | mask addr x y h0 h1 => exact ⟨h0, h1, by simp, by simp, by simp, by simp, by simp, by simp⟩
  | both addr n to l h0 h1 n0 n1 t0 t1 l0 l1 => exact ⟨h0, h1, by dsimp only; omega, by dsimp only; omega, t0, t1, by dsimp only; omega, by simp⟩
  | ident addr n h0 h1 n0 n1 => exact ⟨h0, by dsimp only; omega, by dsimp only; omega, by dsimp only; omega, by simp, by simp, by simp, by simp⟩

theorem low_two (m : Nat) (h : m < 65536) : low (UInt16.ofNat m) 2 = [UInt8.ofNat (m / 256), UInt8.ofNat (m % 256)] := by
  unfold low Word.two
  rw [UInt16.toNat_ofNat', Nat.mod_eq_of_lt (show m < 2 ^ 16 by omega)]
  rfl
theorem low_one (m : Nat) (h : m < 256) : low (UInt16.ofNat m) 1 = [UInt8.ofNat m] := by
  unfold low Word.two
  rw [UInt16.toNat_ofNat', Nat.mod_eq_of_lt (show m < 2 ^ 16 by omega)]
  show [UInt8.ofNat (m % 256)] = _
  rw [Nat.mod_eq_of_lt h]
theorem low_on : low 65280 2 = [255, 0] := by decide
theorem low_off : low 0 2 = [0, 0] := by decide
theorem low_int (n : Int) (h0 : 0 ≤ n) (h1 : n ≤ 65535) : low (UInt16.ofNat n.toNat) 2 = [Ak.hi n, Ak.lo n] := low_two n.toNat (by omega)
theorem low_word (x : UInt16) : low x 2 = [Ak.hi (x.toNat : Int), Ak.lo (x.toNat : Int)] := rfl
theorem low_nat (n : Nat) (h1 : n ≤ 65535) : low (UInt16.ofNat n) 2 = [Ak.hi (n : Int), Ak.lo (n : Int)] := low_two n (by omega)
theorem outs_two (p q : PK) (a : Ask) : LK.outs [p, q] a = p.out a ++ q.out a := by simp [LK.outs]
theorem outs_three (p q r : PK) (a : Ask) : LK.outs [p, q, r] a = p.out a ++ (q.out a ++ r.out a) := by simp [LK.outs]
theorem outs_four (p q r s : PK) (a : Ask) : LK.outs [p, q, r, s] a = p.out a ++ (q.out a ++ (r.out a ++ s.out a)) := by simp [LK.outs]
theorem o_num (f : IF) (sz : Nat) (lo hi : Int) (a : Ask) : (PK.num f sz lo hi).out a = low (UInt16.ofNat (f.get a).toNat) sz := rfl
theorem o_mask (f : UF) (a : Ask) : (PK.mask f).out a = low (f.get a) 2 := rfl
theorem o_bit (a : Ask) : PK.bit.out a = low (if a.bits.getD 0 false then 65280 else 0) 2 := rfl
theorem o_word (a : Ask) : PK.word.out a = low (a.words.getD 0 0) 2 := rfl
theorem o_bits (m : Nat) (a : Ask) : (PK.bits m).out a = low (UInt16.ofNat a.bits.length) 2 ++ (low (UInt16.ofNat ((a.bits.length + 7) / 8)) 1 ++ Word.pack a.bits) := rfl
theorem o_words (m : Nat) (a : Ask) : (PK.words m).out a = low (UInt16.ofNat a.words.length) 2 ++ (low (UInt16.ofNat (2 * a.words.length)) 1 ++ Word.bytes a.words) := rfl
theorem fits_text {a : Ask} {L : LK} (h : layOf a.code = some L) (hf : Ak.formed a = true) : L.begin_ ++ LK.outs L.parts a = Ak.text a := by
  cases Ak.shape hf with
  | count c addr n hc h0 h1 n0 n1 =>
    rw [Ak.text_count c hc]
    rcases hc with rfl | rfl | rfl | rfl <;> cases h <;> dsimp only <;> rw [outs_two, o_num, o_num, i_addr, i_count, low_int addr h0 h1, low_int n (by omega) (by omega)] <;> rfl
  | five addr b h0 h1 =>
    rw [Ak.text_five]
    cases h
    dsimp only
    rw [outs_two, o_num, o_bit, i_addr, low_int addr h0 h1]
    cases b <;> simp [low_on, low_off]
  | six addr x h0 h1 =>
    rw [Ak.text_six]
    cases h
    dsimp only
    rw [outs_two, o_num, o_word, i_addr, low_int addr h0 h1]
    rfl
  | bits addr l h0 h1 l0 l1 =>
    rw [Ak.text_bits]
    cases h
    dsimp only
    rw [outs_two, o_num, o_bits, i_addr, low_int addr h0 h1]
    dsimp only
    rw [low_nat l.length (by omega), low_one _ (by omega), Word.pack_length]
    rfl
  | words addr l h0 h1 l0 l1 =>
    rw [Ak.text_words]
    cases h
    dsimp only
    rw [outs_two, o_num, o_words, i_addr, low_int addr h0 h1]
    dsimp only
    rw [low_nat l.length (by omega), low_one _ (by omega), Word.bytes_length]
    rfl
  | mask addr x y h0 h1 =>
    rw [Ak.text_mask]
    cases h
    dsimp only
    rw [outs_three, o_num, o_mask, o_mask, i_addr, low_int addr h0 h1]
    rfl
  | both addr n to l h0 h1 n0 n1 t0 t1 l0 l1 =>
    rw [Ak.text_both]
    cases h
    dsimp only
    rw [outs_four, o_num, o_num, o_num, o_words, i_addr, i_count, i_to, low_int addr h0 h1, low_int n (by omega) (by omega), low_int to t0 t1]
    dsimp only
    rw [low_nat l.length (by omega), low_one _ (by omega), Word.bytes_length]
    rfl
  | ident addr n h0 h1 n0 n1 =>
    rw [Ak.text_ident]
    cases h
    dsimp only
    rw [outs_two, o_num, o_num, i_addr, i_count]
    dsimp only
    rw [low_one _ (by omega), low_one _ (by omega)]
    rfl
theorem right_text {a : Ask} {L : LK} (h : layOf a.code = some L) (hr : Ak.right a = true) : (∀ p ∈ L.parts, p.fits a = true) ∧ L.begin_ ++ LK.outs L.parts a = Ak.text a ∧ (Ak.text a).length ≤ 10000 := by
  unfold Ak.right at hr
  rw [Bool.and_eq_true] at hr
  refine ⟨?_, fits_text h hr.1, by have := (Ak.text_span (Ak.shape hr.1)).2.2; omega⟩
  have hf := fits_formed h
  rw [hr.1] at hf
  unfold LK.fits at hf
  rw [Bool.and_eq_true] at hf
  exact fun p hp => List.all_eq_true.1 hf.1 p hp
end Go.Proofs.YtlgmjnjhdamknaaGreat
