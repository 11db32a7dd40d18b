
/- A part of the proof of the law MasterDoes. -/
import Derived.Test.YtlgmjnjhdamknaaGreatMem
import Derived.Test.YtlgmjnjhdamknaaGreatWm
import Derived.Lib.MinMax
import Derived.WalkKit
import Derived.Outline
import Derived.Below
import Derived.Lib.Hide
import Derived.Laws.BitsAllLaws
import Derived.Deep.QuietTactic
import Derived.Deep.DeepMust
import Derived.BigQuiet
import Derived.RangeFuncNested
import Derived.RangeFuncBound
import Derived.RangeFuncCalls
import Derived.RangeFuncLeaves
import Derived.RangeFuncBox
import Derived.Shelf.Abstract
import Derived.Shelf.RegionOpen
import Derived.OwnWalkIn
import Derived.TacticsInMore
import Derived.LoopNIn
import Derived.LoopIn
import Derived.Test.YtlgmjnjhdamknaaGreatProg
namespace Go.Proofs.YtlgmjnjhdamknaaGreat
open Go.RowKit

theorem row_at (w : World) (cs : Array Value) (e : TypeId) (g : Nat) (hg : w.heap.size = g) : (w.alloc (.cells cs e)).heap[g]? = some (.cells cs e (0, 0)) := by
  subst hg
  exact heap_alloc_new w _
theorem row_lt {w : World} {g : Nat} {o : Obj} (h : w.heap[g]? = some o) : g < w.heap.size := by
  rcases Nat.lt_or_ge g w.heap.size with h' | h'
  · exact h'
  · rw [Array.getElem?_eq_none h'] at h; cases h
theorem row_later {w w' : World} {g : Nat} {o : Obj} (h : w.heap[g]? = some o) (hb : Below w.heap.size w w') : w'.heap[g]? = some o := (hb.block g (row_lt h)).trans h
theorem cell_far {w : World} {g b o k : Nat} (hne : b ≠ g) (x : Value) : (w.setCell ⟨g, k, none⟩ x).cell? ⟨b, o, none⟩ = w.cell? ⟨b, o, none⟩ := by
  simp only [World.cell?, World.setCell]
  rw [Array.getElem?_modify, if_neg (fun e => hne e.symm)]
end Go.Proofs.YtlgmjnjhdamknaaGreat

namespace Go.Proofs.YtlgmjnjhdamknaaGreat
open Go.RowKit

theorem row_eight {w : World} {g : Nat} {c0 c1 c2 c3 c4 c5 c6 c7 : Value} {t : TypeId} (h : w.heap[g]? = some (.cells #[c0, c1, c2, c3, c4, c5, c6, c7] t (0, 0))) :
    w.cell? ⟨g, 0, none⟩ = some c0 ∧ w.cell? ⟨g, 1, none⟩ = some c1 ∧ w.cell? ⟨g, 2, none⟩ = some c2 ∧ w.cell? ⟨g, 3, none⟩ = some c3 ∧ w.cell? ⟨g, 4, none⟩ = some c4 ∧ w.cell? ⟨g, 5, none⟩ = some c5 ∧ w.cell? ⟨g, 6, none⟩ = some c6 ∧ w.cell? ⟨g, 7, none⟩ = some c7 := by
  simp [World.cell?, h]
theorem u16_ne (x : UInt16) : ((x.toNat : Int) != 0) = (x != 0) := by
  by_cases h : x = 0
  · subst h; rfl
  · rw [bne_iff_ne.2 h, bne_iff_ne]
    intro e
    exact h (UInt16.toNat_inj.1 (by simpa using e))

set_option maxRecDepth 100000 in
set_option maxHeartbeats 4000000 in
theorem rformed_any (a : Ask) (h k : Option Addr × Nat × Nat) (w : World) (ha : AskIn w a h k) :
    Calls Tryz.prog 64 #[askV a h k] w fun e w' => e = .returned (.bool (Ak.formed a)) ∧ Below w.heap.size w w' := by
  obtain ⟨code, addr, count, to, words, bits, and_, or_⟩ := a
  obtain ⟨hA, hn, hc⟩ := h
  obtain ⟨kA, kn, kc⟩ := k
  have e1 := ha.hn
  have e2 := ha.kn
  dsimp only at e1 e2
  clear ha
  obtain ⟨V, hV⟩ : ∃ V, Ak.formed ⟨code, addr, count, to, words, bits, and_, or_⟩ = V := ⟨_, rfl⟩
  have HF : Hid (V = (Ak.isC code && Ak.fits count (Ak.most code).1 && Ak.fits hn (Ak.most code).2.1 && Ak.fits kn (Ak.most code).2.2 && !(code != 22 && (and_ != 0 || or_ != 0) || code != 23 && to != 0) && (decide (0 ≤ addr) && decide (addr ≤ 65535) && decide (0 ≤ to) && decide (to ≤ 65535) && (code != 43 || decide (addr ≤ 255))))) := qh (by rw [← hV]; unfold Ak.formed; rw [← e1, ← e2])
  rw [hV]
  clear e1 e2 hV
  unfold askV
  go_enter Tryz.func64, Tryz.ntmps64
  go_wp2_with fail
  refine (rmost_any code _).mono ?_
  rintro e w2 ⟨rfl, rfl⟩
  go_wp2_with fail
  have hrow := row_at w #[.int .i64 code, .int .i64 addr, .int .i64 count, .int .i64 to, .slice hA hn hc, .slice kA kn kc, u16v and_, u16v or_] 58 w.heap.size rfl
  refine (ris_any code _).mono ?_
  rintro e w3 ⟨rfl, hb3⟩
  have hbw := ((Below.refl _ w).alloc (zq _) (.cells #[.int .i64 code, .int .i64 addr, .int .i64 count, .int .i64 to, .slice hA hn hc, .slice kA kn kc, u16v and_, u16v or_] 58)).trans (hb3.mono (by simp))
  obtain ⟨r0, r1, r2, r3, r4, r5, r6, r7⟩ := row_eight (row_later hrow hb3)
  have hltw : w.heap.size < w3.heap.size := row_lt (row_later hrow hb3)
  clear hrow hb3
  generalize Ak.most code = m at *
  obtain ⟨m1, m2, m3⟩ := m
  dsimp only at *
  cases hI : Ak.isC code with
  | false =>
    rw [hI] at HF
    go_wp2_with fail
    go_ret
    exact ⟨by rw [HF.out]; rfl, hbw⟩
  | true =>
    rw [hI] at HF
    go_wp2_with fail
    refine (rfits_any count m1 _).mono ?_
    rintro e w4 ⟨rfl, rfl⟩
    cases h1 : Ak.fits count m1 with
    | false =>
      rw [h1] at HF
      go_wp2_with fail
      go_ret
      exact ⟨by rw [HF.out]; rfl, hbw⟩
    | true =>
      rw [h1] at HF
      go_wp2_with fail
      refine (rfits_any hn m2 _).mono ?_
      rintro e w4 ⟨rfl, rfl⟩
      cases h2 : Ak.fits hn m2 with
      | false =>
        rw [h2] at HF
        go_wp2_with fail
        go_ret
        exact ⟨by rw [HF.out]; rfl, hbw⟩
      | true =>
        rw [h2] at HF
        go_wp2_with fail
        refine (rfits_any kn m3 _).mono ?_
        rintro e w4 ⟨rfl, rfl⟩
        cases h3 : Ak.fits kn m3 with
        | false =>
          rw [h3] at HF
          go_wp2_with fail
          go_ret
          exact ⟨by rw [HF.out]; rfl, hbw⟩
        | true =>
          rw [h3] at HF
          clear hI h1 h2 h3
          have n1 := u16_ne and_
          have n2 := u16_ne or_
          go_wp2_with fail
          all_goals go_ret
          all_goals refine ⟨?_, hbw⟩
          all_goals rw [HF.out]
          all_goals congr 2
          all_goals (first | (simp_all; done) | (simp_all; omega))
end Go.Proofs.YtlgmjnjhdamknaaGreat

namespace Go.Proofs.YtlgmjnjhdamknaaGreat
open Go.RowKit

theorem run_max_three {P : Program} (w : World) (ts : Array TypeId) (t : TypeId) (k k' k'' : IntKind) (x y z : Int) :
    (Builtin.max_ ts t #[.int k x, .int k' y, .int k'' z]).run P w = .ok (.int k (max (max x y) z)) w := by
  have e : ∀ x y : Int, (if y > x then y else x) = max x y := by
    intro x y
    rw [Int.max_def]
    split <;> split <;> omega
  simp [Builtin.max_, Builtin.max2, e]
attribute [local go_sem] run_max_three

namespace Ak
theorem fits_le {n m : Int} (h : fits n m = true) (hm : 0 ≤ m) : 0 ≤ n ∧ n ≤ m := by
  unfold fits at h
  simp only [Bool.or_eq_true, Bool.and_eq_true, beq_iff_eq, decide_eq_true_eq] at h
  rcases h with ⟨rfl, rfl⟩ | h <;> omega
theorem most_le (c : Int) : 0 ≤ (most c).1 ∧ (most c).1 ≤ 2000 ∧ 0 ≤ (most c).2.1 ∧ (most c).2.1 ≤ 123 ∧ 0 ≤ (most c).2.2 ∧ (most c).2.2 ≤ 1968 := by
  unfold most
  repeat' split
  all_goals simp
structure Bounds (a : Ask) : Prop where
  c : a.code ∈ codes
  a0 : 0 ≤ a.addr
  a1 : a.addr ≤ 65535
  t0 : 0 ≤ a.to
  t1 : a.to ≤ 65535
  n0 : 0 ≤ a.count
  n1 : a.count ≤ 2000
  w1 : a.words.length ≤ 123
  b1 : a.bits.length ≤ 1968
theorem bounds {a : Ask} (h : formed a = true) : Bounds a := by
  unfold formed at h
  simp only [Bool.and_eq_true, decide_eq_true_eq, isC] at h
  obtain ⟨⟨⟨⟨⟨h1, h2⟩, h3⟩, h4⟩, _⟩, ⟨⟨⟨h5, h6⟩, h7⟩, h8⟩, _⟩ := h
  obtain ⟨m0, m1, m2, m3, m4, m5⟩ := most_le a.code
  have g2 := fits_le h2 m0
  have g3 := fits_le h3 m2
  have g4 := fits_le h4 m4
  exact ⟨h1, h5, h6, h7, h8, by omega, by omega, by omega, by omega⟩
end Ak

set_option maxRecDepth 100000 in
set_option maxHeartbeats 4000000 in
theorem rplaced_any (a : Ask) (h k : Option Addr × Nat × Nat) (w : World) (ha : AskIn w a h k) (hf : Ak.formed a = true) :
    Calls Tryz.prog 65 #[askV a h k] w fun e w' => e = .returned (.bool (Ak.placed a)) ∧ Below w.heap.size w w' := by
  obtain ⟨_, b1, b2, b3, b4, b5, b6, b7, b8⟩ := Ak.bounds hf
  obtain ⟨code, addr, count, to, words, bits, and_, or_⟩ := a
  obtain ⟨hA, hn, hc⟩ := h
  obtain ⟨kA, kn, kc⟩ := k
  have e1 := ha.hn
  have e2 := ha.kn
  dsimp only at e1 e2 b1 b2 b3 b4 b5 b6 b7 b8
  rw [e1] at b7
  rw [e2] at b8
  clear ha hf
  obtain ⟨V, hV⟩ : ∃ V, Ak.placed ⟨code, addr, count, to, words, bits, and_, or_⟩ = V := ⟨_, rfl⟩
  have HF : Hid (V = (if code = 23 then decide (addr + count ≤ 65536) && decide (to + hn ≤ 65536) else code == 43 || decide (addr + max (max (max count kn) 1) hn ≤ 65536))) := qh (by rw [← hV]; unfold Ak.placed; rw [← e1, ← e2])
  rw [hV]
  clear e1 e2 hV
  have w1 : IntKind.i64.wrap (addr + count) = addr + count := by rw [IntKind.wrap_i64]; omega
  have w2 : IntKind.i64.wrap (to + (hn : Int)) = to + (hn : Int) := by rw [IntKind.wrap_i64]; omega
  have w3 : IntKind.i64.wrap (addr + max (max (max count (kn : Int)) 1) (hn : Int)) = addr + max (max (max count (kn : Int)) 1) (hn : Int) := by rw [IntKind.wrap_i64]; omega
  unfold askV
  go_enter Tryz.func65, Tryz.ntmps65
  go_wp2_with fail
  all_goals go_ret
  all_goals refine ⟨?_, by repeat (first | exact Below.refl _ _ | apply Below.alloc | omega)⟩
  all_goals rw [HF.out]
  all_goals congr 2
  all_goals (first | (simp_all; done) | (simp_all; omega))

set_option maxRecDepth 100000 in
set_option maxHeartbeats 4000000 in
theorem rright_any (a : Ask) (h k : Option Addr × Nat × Nat) (w : World) (ha : AskIn w a h k) :
    Calls Tryz.prog 41 #[askV a h k] w fun e w' => e = .returned (.bool (Ak.right a)) ∧ Below w.heap.size w w' := by
  have HR : Hid (Ak.right a = (Ak.formed a && Ak.placed a)) := qh rfl
  go_enter Tryz.func41, Tryz.ntmps41
  have hb0 : Below w.heap.size w (w.alloc (.cells #[.int .i64 a.code, .int .i64 a.addr, .int .i64 a.count, .int .i64 a.to, .slice h.1 h.2.1 h.2.2, .slice k.1 k.2.1 k.2.2, u16v a.and_, u16v a.or_] 58)) := (Below.refl _ _).alloc (zq _) _
  have hrow := row_at w #[.int .i64 a.code, .int .i64 a.addr, .int .i64 a.count, .int .i64 a.to, .slice h.1 h.2.1 h.2.2, .slice k.1 k.2.1 k.2.2, u16v a.and_, u16v a.or_] 58 w.heap.size rfl
  have ha1 := ha.below hb0
  have hA : askV a h k = .agg #[.int .i64 a.code, .int .i64 a.addr, .int .i64 a.count, .int .i64 a.to, .slice h.1 h.2.1 h.2.2, .slice k.1 k.2.1 k.2.2, u16v a.and_, u16v a.or_] := rfl
  rw [hA]
  go_wp2_with fail
  refine (rformed_any a h k _ ha1).mono ?_
  rintro e w2 ⟨rfl, hb2⟩
  have hbw := hb0.trans (hb2.mono hb0.size)
  have ha2 := ha1.below hb2
  obtain ⟨r0, r1, r2, r3, r4, r5, r6, r7⟩ := row_eight (row_later hrow hb2)
  have hz := hbw.size
  cases hf : Ak.formed a with
  | false =>
    rw [hf] at HR
    go_wp2_with fail
    go_ret
    exact ⟨by rw [HR.out]; rfl, hbw⟩
  | true =>
    have HFF := qh hf
    rw [hf] at HR
    clear hf
    go_wp2_with fail
    refine (rplaced_any a h k _ ha2 HFF.out).mono ?_
    rintro e w3 ⟨rfl, hb3⟩
    go_wp2_with fail
    go_ret
    exact ⟨by rw [HR.out]; rfl, hbw.trans (hb3.mono hz)⟩
end Go.Proofs.YtlgmjnjhdamknaaGreat

namespace Go.Proofs.YtlgmjnjhdamknaaGreat
open Go.RowKit

theorem kit16 : EK Tryz.prog 36 38 (.int .u16 0) 2 := ⟨Tryz.underlying36, by kernel_rfl, rfl⟩
theorem kitb : EK Tryz.prog 37 4 (.bool false) 1 := ⟨Tryz.underlying37, by kernel_rfl, rfl⟩
theorem one16 : ∀ x : UInt16, (u16v x).oneCell' = true := fun _ => rfl
theorem oneb : ∀ x : Bool, (bitv x).oneCell' = true := fun _ => rfl

theorem grown_of_below {w w' : World} (h : Below w.heap.size w w') (row : Option Nat) : w.grownBy w' row := ⟨h.os, h.tape, h.output, h.size, fun k hk _ => h.block k hk⟩

def twov (x : UInt16) : Value := .agg ((Word.two x).map u8v).toArray
theorem twov_eq (x : UInt16) : twov x = .agg #[.int .u8 ((x.toNat / 256 : Nat) : Int), .int .u8 ((x.toNat % 256 : Nat) : Int)] := by
  have h := x.toNat_lt
  have e2 : x.toNat / 256 % 256 = x.toNat / 256 := Nat.mod_eq_of_lt (by omega)
  simp [twov, Word.two, u8v, e2]

theorem two_map (x : UInt16) : (Word.two x).map u8v = [.int .u8 ((x.toNat : Int) / 256), .int .u8 ((x.toNat : Int) % 256)] := by
  have := twov_eq x
  simp only [twov, Value.agg.injEq] at this
  have h2 := congrArg Array.toList this
  simpa using h2
set_option maxHeartbeats 400000 in
theorem put_any (x : UInt16) (w : World) :
    Calls Tryz.prog 151 #[u16v x] w fun e w' => e = .returned (twov x) ∧ Below w.heap.size w w' := by
  have h := x.toNat_lt
  rw [twov_eq]
  unfold u16v
  generalize x.toNat = m at *
  go_enter Tryz.func151, Tryz.ntmps151
  go_wp2
  refine bodyPost_ret_by (v := .agg #[.int .u8 ((m : Int) / 256), .int .u8 ((m : Int) % 256)]) (by simp [results, Tryz.f151, go_sem]) rfl ?_
  exact ⟨by rw [Int.natCast_ediv, Int.natCast_emod]; rfl, (Below.refl _ _).alloc (zq _) _⟩
set_option maxHeartbeats 400000 in
theorem rput_any (x : UInt16) (w : World) :
    Calls Tryz.prog 145 #[u16v x] w fun e w' => e = .returned (twov x) ∧ Below w.heap.size w w' := by
  have h := x.toNat_lt
  rw [twov_eq]
  unfold u16v
  generalize x.toNat = m at *
  go_enter Tryz.func145, Tryz.ntmps145
  go_wp2
  refine bodyPost_ret_by (v := .agg #[.int .u8 ((m : Int) / 256), .int .u8 ((m : Int) % 256)]) (by simp [results, Tryz.f145, go_sem]) rfl ?_
  exact ⟨by rw [Int.natCast_ediv, Int.natCast_emod]; rfl, (Below.refl _ _).alloc (zq _) _⟩
set_option maxHeartbeats 400000 in
theorem taken_any (m : Nat) (h : m ≤ 9223372036854775807) (w : World) :
    Calls Tryz.prog 130 #[.int .i64 (m : Int)] w fun e w' => e = .returned (.int .i64 (((m + 7) / 8 : Nat) : Int)) ∧ w = w' := by
  go_enter Tryz.func130, Tryz.ntmps130
  go_wp2
  all_goals go_ret
  all_goals refine ⟨?_, rfl⟩
  all_goals congr 2
  all_goals simp at *
  all_goals omega

set_option maxHeartbeats 400000 in
theorem get_any (a b : UInt8) (w : World) :
    Calls Tryz.prog 172 #[.agg #[u8v a, u8v b]] w fun e w' => e = .returned (u16v (Word.word a b)) ∧ Below w.heap.size w w' := by
  have ha := a.toNat_lt
  have hb := b.toNat_lt
  have hv : ((Word.word a b).toNat : Int) = 256 * (a.toNat : Int) + b.toNat := by
    unfold Word.word
    rw [UInt16.toNat_ofNat']
    omega
  unfold u8v u16v
  rw [hv]
  generalize a.toNat = x at *
  generalize b.toNat = y at *
  clear hv
  have hor : bits .or .u16 ((x : Int) * 256) (y : Int) = 256 * (x : Int) + y := by
    have := u16_or_nat (x * 256) y (by omega) (by omega)
    rw [Nat.mul_comm x 256, show 256 = 2 ^ 8 from rfl, ← Nat.two_pow_add_eq_or_of_lt (by omega)] at this
    rw [Int.mul_comm]
    simpa using this
  go_enter Tryz.func172, Tryz.ntmps172
  go_wp2
  go_ret
  exact ⟨rfl, (Below.refl _ _).alloc (zq _) _⟩

set_option maxRecDepth 100000 in
set_option maxHeartbeats 400000 in
theorem layWord_any (x : UInt16) (B : Nat) (v : Value) (n : Nat) (xs : List UInt8) (w : World) (hown : w.ownsRow B 5 1 v n (xs.map u8v)) (hB : B ≤ w.heap.size) (h47 : n ≤ 100000) :
    Calls Tryz.prog 161 #[v, u16v x] w fun e w' => ∃ A c, e = .returned (.slice A (n + 2) c) ∧ w'.ownsRow B 5 1 (.slice A (n + 2) c) (n + 2) ((xs ++ Word.two x).map u8v) ∧ w.grownBy w' v.ownBlock := by
  go_enter Tryz.func161, Tryz.ntmps161
  go_wp2_with fail
  refine (put_any x _).mono ?_
  rintro e w1 ⟨rfl, hbe1⟩
  have hg1 := grown_of_below hbe1 v.ownBlock
  have hown1 := own_below hown hbe1
  have hz := hbe1.size
  rw [twov_eq]
  go_wp2_with (first
    | (at_builtin; go_must (refine wpList_append_lies kit8 one8 _ rfl (.tmp 8) (.tmp 9) rfl B _ n xs rfl (hown1.alloc _) (some ⟨w1.heap.size, 0, none⟩) 2 2 (Word.two x) rfl rfl (lies_new _ _ _ _ (by rw [two_map])) (by omega) (by unfold maxLen; omega) (by simp; omega) ?_; intro A2 c2 w2 hown2 hg2 hb2)))
  go_ret
  exact ⟨A2, c2, rfl, hown2, hg1.trans ((World.grownBy_alloc _ _ _).trans hg2)⟩

theorem or_shift (x j : Nat) (hx : x < 2 ^ j) (hj : j < 8) : bits .or .u8 (x : Int) ((2 ^ j : Nat) : Int) = ((x + 2 ^ j : Nat) : Int) := by
  have h2 : 2 ^ j ≤ 128 := Nat.pow_le_pow_right (n := 2) (by omega) (show j ≤ 7 by omega)
  rw [u8_or_nat x (2 ^ j) (by omega) (by omega)]
  have := Nat.two_pow_add_eq_or_of_lt hx 1
  rw [Nat.mul_one] at this
  rw [Nat.or_comm, ← this, Nat.add_comm]
theorem val_take_succ (l : List Bool) (j : Nat) (hj : j < l.length) : Word.val (l.take (j + 1)) = Word.val (l.take j) + 2 ^ j * l[j].toNat := by
  rw [List.take_succ_eq_append_getElem hj, Word.val_snoc, List.length_take, Nat.min_eq_left (by omega)]

theorem val_map (l : List Bool) (h : l.length ≤ 8) : [Value.int .u8 ((Word.val l : Nat) : Int)] = [UInt8.ofNat (Word.val l)].map u8v := by
  have := Word.val_small l h
  simp only [List.map_cons, List.map_nil, u8v, UInt8.toNat_ofNat']
  rw [Nat.mod_eq_of_lt (by omega)]
set_option maxRecDepth 100000 in
set_option maxHeartbeats 400000 in
theorem layBits_any (A : Option Addr) (m c : Nat) (l : List Bool) (hm : l.length = m) (h8 : m ≤ 8) (B : Nat) (v : Value) (n : Nat) (xs : List UInt8) (w : World) (hl : Lies bitv w A l) (hown : w.ownsRow B 5 1 v n (xs.map u8v)) (hB : B ≤ w.heap.size) (h47 : n ≤ 100000) :
    Calls Tryz.prog 131 #[v, .slice A m c] w fun e w' => ∃ A c, e = .returned (.slice A (n + 1) c) ∧ w'.ownsRow B 5 1 (.slice A (n + 1) c) (n + 1) ((xs ++ [UInt8.ofNat (Word.val l)]).map u8v) ∧ w.grownBy w' v.ownBlock := by
  subst hm
  go_enter Tryz.func131, Tryz.ntmps131
  go_wp2
  go_loopw [5, 10] (fun one i wr => ∃ j : Nat, j ≤ l.length ∧ i = .int .i64 j ∧ one = .int .u8 ((Word.val (l.take j) : Nat) : Int) ∧ wr = w) (fun _ i _ => l.length - (intOf i).toNat)
  case atStart => exact ⟨0, Nat.zero_le _, rfl, rfl, rfl⟩
  case round =>
    obtain ⟨j, hj, rfl, rfl, rfl⟩ := hrel
    by_cases hlt : j < l.length
    · obtain ⟨b1, o1, rfl, hc1⟩ := hl j hlt
      have hs := val_take_succ l j hlt
      have hv : Word.val (l.take j) < 2 ^ j := by have := Word.val_lt (l.take j); rwa [List.length_take, Nat.min_eq_left hj] at this
      have ho := or_shift _ j hv (by omega)
      unfold bitv at hc1
      generalize Word.val (l.take j) = x at *
      cases hbit : l[j] with
      | false =>
        rw [hbit] at hc1 hs
        go_wp2
        exact ⟨⟨j + 1, by omega, by simp, by rw [hs]; simp, trivial⟩, by simp [intOf]; omega⟩
      | true =>
        rw [hbit] at hc1 hs
        have hp : ((2 : Int) ^ j % 256) = ((2 ^ j : Nat) : Int) := by
          have h2 : 2 ^ j ≤ 128 := Nat.pow_le_pow_right (n := 2) (by omega) (show j ≤ 7 by omega)
          rw [Int.natCast_pow]
          have h3 : ((2 ^ j : Nat) : Int) = (2 : Int) ^ j := Int.natCast_pow 2 j
          exact Int.emod_eq_of_lt (by omega) (by omega)
        have ho' : bits .or .u8 (x : Int) ((2 : Int) ^ j) = ((x + 2 ^ j : Nat) : Int) := by rw [← ho, Int.natCast_pow]; rfl
        go_wp2
        exact ⟨⟨j + 1, by omega, by simp, by rw [hs]; simp, trivial⟩, by simp [intOf]; omega⟩
    · obtain rfl : j = l.length := by omega
      rw [List.take_length]
      have hv := Word.val_small l h8
      have HY := qh (val_map l h8)
      go_wp2_with (first
        | (at_builtin; go_must (refine wpList_append_lies kit8 one8 _ rfl (.tmp 21) (.tmp 23) rfl B _ n xs rfl (hown.alloc _) (some ⟨wr.heap.size, 0, none⟩) 1 1 [UInt8.ofNat (Word.val l)] rfl rfl (lies_new _ _ _ _ HY.out) (by omega) (by unfold maxLen; omega) (by simp; omega) ?_; intro A2 c2 w2 hown2 hg2 hb2)))
      go_ret
      exact ⟨A2, c2, rfl, hown2, (World.grownBy_alloc _ _ _).trans hg2⟩
end Go.Proofs.YtlgmjnjhdamknaaGreat

namespace Go.Proofs.YtlgmjnjhdamknaaGreat
open Go.RowKit Go.Shelf

attribute [local go_sem] Oper.semAt_some

set_option maxRecDepth 100000 in
set_option maxHeartbeats 2000000 in
theorem values1_in (F : Fence) (n : Nat) (hf : F.fn 174) (hro : F.round = none) (hn : 1 ≤ n) (l Bs n₀ b off cap : Nat) (zs : List UInt16) (hmax : zs.length ≤ 100000) (hb : b < n₀) (J Jx : List UInt16 → World → Prop)
    (hY : ∀ pre x W, J pre W → pre.length < zs.length → YieldAt F (n - 1) Tryz.prog l #[u16v x] W fun e W' =>
      (e = .returned (.bool true) ∧ J (pre ++ [x]) W' ∧ Below n₀ W W') ∨ (e = .returned (.bool false) ∧ Jx (pre ++ [x]) W'))
    (W : World) (hBs : W.cell? ⟨Bs, 0, none⟩ = some (.slice (some ⟨b, off, none⟩) zs.length cap)) (hc : Lies u16v W (some ⟨b, off, none⟩) zs) (h0 : J [] W) :
    CallsIn F n Tryz.prog 174 #[.func (.yield l) #[] #[], .pointer (some ⟨Bs, 0, none⟩)] W fun e W' => (∃ v, e = .returned v) ∧
      ((∃ ys, ys = zs ∧ J ys W') ∨ (∃ pre, pre <+: zs ∧ Jx pre W')) := by
  refine callsIn_of_wp Tryz.func174 rfl hf ?_ hro
  simp only [Tryz.ntmps174, List.size_toArray, List.length_cons, List.length_nil, Nat.reduceAdd, Nat.reduceSub, Array.replicate_succ, Array.replicate_zero, List.push_toArray, List.append_toArray, List.nil_append, List.cons_append]
  gi_wp2
  gi_loopw [7] (fun i wr => ∃ k : Nat, k ≤ zs.length ∧ i = .int .i64 k ∧ J (zs.take k) wr ∧ Below n₀ W wr)
    (fun i _ => zs.length - (intOf i).toNat)
  case atStart => exact ⟨0, Nat.zero_le _, rfl, h0, Below.refl _ _⟩
  case round =>
    obtain ⟨k, hk, rfl, hJs, hnx⟩ := hrel
    by_cases hlt : k < zs.length
    · have hcx : wr.cell? ⟨b, off + k, none⟩ = some (u16v zs[k]) := (hnx.cell (p := ⟨b, off + k, none⟩) hb).trans (hc.row k hlt)
      obtain ⟨fn, tmps, assign, body, hy, hR⟩ := hY _ zs[k] wr hJs (by rw [List.length_take]; omega)
      rw [← List.take_succ_eq_append_getElem hlt] at hR
      generalize zs[k] = x at *
      gi_wp2
      refine hR.mono ?_
      rintro e W3 (⟨rfl, hJ3, hk3⟩ | ⟨rfl, hJx3⟩)
      · gi_wp2
        go_roundw
        case rel => exact ⟨k + 1, by omega, by simp, hJ3, hnx.trans hk3⟩
        case measure => simp [intOf]; omega
      · gi_wp2
        refine bodyPost_ret (results_none rfl _ _ _) rfl ?_
        exact ⟨⟨_, rfl⟩, .inr ⟨_, List.take_prefix _ _, hJx3⟩⟩
    · obtain rfl : k = zs.length := by omega
      rw [List.take_length] at hJs
      gi_wp2
      go_end0
      exact ⟨⟨_, rfl⟩, .inl ⟨_, rfl, hJs⟩⟩

set_option maxRecDepth 100000 in
set_option maxHeartbeats 1000000 in
theorem values1_nil_in (F : Fence) (n : Nat) (hf : F.fn 174) (hro : F.round = none) (l Bs cap : Nat) (A : Option Addr) (J : List UInt16 → World → Prop) (W : World) (hBs : W.cell? ⟨Bs, 0, none⟩ = some (.slice A 0 cap)) (h0 : J [] W) :
    CallsIn F n Tryz.prog 174 #[.func (.yield l) #[] #[], .pointer (some ⟨Bs, 0, none⟩)] W fun e W' => (∃ v, e = .returned v) ∧ J [] W' := by
  refine callsIn_of_wp Tryz.func174 rfl hf ?_ hro
  simp only [Tryz.ntmps174, List.size_toArray, List.length_cons, List.length_nil, Nat.reduceAdd, Nat.reduceSub, Array.replicate_succ, Array.replicate_zero, List.push_toArray, List.append_toArray, List.nil_append, List.cons_append]
  gi_wp2
  gi_loopw [7] (fun i wr => i = .int .i64 0 ∧ J [] wr) (fun _ _ => 0)
  case atStart => exact ⟨rfl, h0⟩
  case round =>
    obtain ⟨rfl, hJs⟩ := hrel
    gi_wp2
    go_end0
    exact ⟨⟨_, rfl⟩, hJs⟩

set_option maxHeartbeats 1000000 in
theorem values_any (a : Option Addr) (len cap : Nat) (w : World) :
    Calls Tryz.prog 160 #[.slice a len cap] w fun e w' => e = .returned (.func (.func 174) #[] #[.pointer (some ⟨w.heap.size, 0, none⟩)]) ∧ w' = w.alloc (.cells #[.slice a len cap] 36) := by
  go_enter Tryz.func160, Tryz.ntmps160
  go_wp2
  go_ret
  exact ⟨rfl, rfl⟩

theorem values_stops (F : Fence) (n : Nat) (hf : F.fn 174) (hro : F.round = none) (hn : 1 ≤ n) (Bs n₀ cap : Nat) (A : Option Addr) (zs : List UInt16) (hmax : zs.length ≤ 100000) (w : World) (hBs : Bs < w.heap.size) (hn₀ : n₀ ≤ w.heap.size)
    (hc : w.cell? ⟨Bs, 0, none⟩ = some (.slice A zs.length cap)) (w0 : World) (h0 : w0.heap.size = n₀) (hw0 : Below n₀ w0 w) (hI : Lies u16v w0 A zs) :
    SeqStopsK F n Tryz.prog 174 #[.pointer (some ⟨Bs, 0, none⟩)] (fun x : UInt16 => #[u16v x]) (Below n₀) (fun ys => ys = zs) (fun pre => pre <+: zs) zs.length w := fun l J Jx W hW _ _ hY h0' => by
  have hc' := (hW.cell (p := ⟨Bs, 0, none⟩) hBs).trans hc
  rcases Nat.eq_zero_or_pos zs.length with hz | hz
  · obtain rfl := List.eq_nil_of_length_eq_zero hz
    exact (values1_nil_in F n hf hro l Bs cap A J W hc' h0').mono fun e W' ⟨he, hj⟩ => ⟨he, .inl ⟨_, rfl, hj⟩⟩
  · obtain ⟨b, off, rfl, hb, hcs⟩ := hI.at_ hz
    subst h0
    exact values1_in F n hf hro hn l Bs _ b off cap zs hmax hb J Jx hY W hc' ((hI.below hw0 (zq _)).below hW (zq _)) h0'
end Go.Proofs.YtlgmjnjhdamknaaGreat
