
/-
  Requests: behind, Same of the document's layer 6, walked.
-/
import Derived.Test.YtlgmjnjhdamknaaGreatRs2
import Derived.Laws.BitsAllLaws
import Derived.Deep.RegionLaw
import Derived.RangeFuncBox
import Derived.Laws.Cover3
import Derived.Test.YtlgmjnjhdamknaaGreatMem
namespace Go.Proofs.YtlgmjnjhdamknaaGreat
open Go.RowKit

theorem u16_eq (x y : UInt16) : ((x.toNat : Int) == (y.toNat : Int)) = (x == y) := by
  by_cases h : x = y
  · subst h; simp
  · rw [beq_eq_false_iff_ne.2 h, beq_eq_false_iff_ne]
    intro e
    exact h (UInt16.toNat_inj.1 (by exact_mod_cast e))

end Go.Proofs.YtlgmjnjhdamknaaGreat

/-
  The landed ask: Same.
-/
namespace Go.Proofs.YtlgmjnjhdamknaaGreat
open Go.RowKit

set_option maxRecDepth 100000 in
set_option maxHeartbeats 400000 in
theorem equal16_any (A1 A2 : Option Addr) (n m c d : Nat) (l k : List UInt16) (hn : l.length = n) (hm : k.length = m) (hmn : n ≤ maxLen) (w : World) (h1 : Lies u16v w A1 l) (h2 : Lies u16v w A2 k) :
    Calls Tryz.prog 52 #[.slice A1 n c, .slice A2 m d] w fun e w' => e = .returned (.bool (l == k)) ∧ ∃ q, w' = w.drewN q := by
  subst hn
  subst hm
  unfold maxLen at hmn
  by_cases hlen : l.length = k.length
  · have he : ((l.length : Int) != (k.length : Int)) = false := by rw [hlen]; simp
    have HLEN := Lib.hid hlen
    have hle : l.length ≤ k.length := by omega
    clear hlen
    go_enter Tryz.func52, Tryz.ntmps52
    go_wp2
    go_loopw [5, 13] (fun _ i wr => ∃ j : Nat, j ≤ l.length ∧ i = .int .i64 j ∧ l.take j = k.take j ∧ ∃ q, wr = w.drewN q) (fun _ i _ => l.length - (intOf i).toNat)
    case atStart => exact ⟨0, Nat.zero_le _, rfl, rfl, 0, rfl⟩
    case round =>
      obtain ⟨j, hj, rfl, ht, q, rfl⟩ := hrel
      have HT := Lib.hid ht
      clear ht
      by_cases hlt : j < l.length
      · obtain ⟨b1, o1, rfl, hc1⟩ := h1 j hlt
        have hlt2 : j < k.length := by omega
        obtain ⟨b2, o2, rfl, hc2⟩ := h2 j hlt2
        unfold u16v at hc1 hc2
        by_cases hx : l[j] = k[j]
        · have HS := Lib.hid (take_step l k j hlt hlt2 HT.out hx)
          rw [← hx] at hc2
          clear hx
          generalize l[j] = x at hc1 hc2
          go_wp2
          go_quiet (fail)
          go_wp2
          go_roundw
          case rel => exact ⟨j + 1, by omega, by go_num, HS.out, _, rfl⟩
          case measure => simp [intOf]; omega
        · have HS := Lib.hid (same_no l k j hlt hlt2 hx)
          have hne : (((l[j]).toNat : Int) != ((k[j]).toNat : Int)) = true := by
            rw [bne_iff_ne]
            intro e
            exact hx (UInt16.toNat_inj.1 (by exact_mod_cast e))
          clear hx
          generalize l[j] = x at hc1 hne
          generalize k[j] = y at hc2 hne
          go_wp2
          go_quiet (fail)
          go_wp2
          go_ret
          exact ⟨by rw [HS.out]; rfl, _, World.drewN_drewN _ _ _⟩
      · obtain rfl : j = l.length := by omega
        have HS := Lib.hid (same_yes l k HLEN.out HT.out)
        go_wp2
        go_ret
        exact ⟨by rw [HS.out]; rfl, _, rfl⟩
  · have he : ((l.length : Int) != (k.length : Int)) = true := by rw [bne_iff_ne]; omega
    have HS := Lib.hid (same_len l k hlen)
    clear hlen
    go_enter Tryz.func52, Tryz.ntmps52
    go_wp2
    go_ret
    exact ⟨by rw [HS.out]; rfl, 0, rfl⟩
set_option maxRecDepth 100000 in
set_option maxHeartbeats 400000 in
theorem equalb_any (A1 A2 : Option Addr) (n m c d : Nat) (l k : List Bool) (hn : l.length = n) (hm : k.length = m) (hmn : n ≤ maxLen) (w : World) (h1 : Lies bitv w A1 l) (h2 : Lies bitv w A2 k) :
    Calls Tryz.prog 51 #[.slice A1 n c, .slice A2 m d] w fun e w' => e = .returned (.bool (l == k)) ∧ ∃ q, w' = w.drewN q := by
  subst hn
  subst hm
  unfold maxLen at hmn
  by_cases hlen : l.length = k.length
  · have he : ((l.length : Int) != (k.length : Int)) = false := by rw [hlen]; simp
    have HLEN := Lib.hid hlen
    have hle : l.length ≤ k.length := by omega
    clear hlen
    go_enter Tryz.func51, Tryz.ntmps51
    go_wp2
    go_loopw [5, 13] (fun _ i wr => ∃ j : Nat, j ≤ l.length ∧ i = .int .i64 j ∧ l.take j = k.take j ∧ ∃ q, wr = w.drewN q) (fun _ i _ => l.length - (intOf i).toNat)
    case atStart => exact ⟨0, Nat.zero_le _, rfl, rfl, 0, rfl⟩
    case round =>
      obtain ⟨j, hj, rfl, ht, q, rfl⟩ := hrel
      have HT := Lib.hid ht
      clear ht
      by_cases hlt : j < l.length
      · obtain ⟨b1, o1, rfl, hc1⟩ := h1 j hlt
        have hlt2 : j < k.length := by omega
        obtain ⟨b2, o2, rfl, hc2⟩ := h2 j hlt2
        unfold bitv at hc1 hc2
        by_cases hx : l[j] = k[j]
        · have HS := Lib.hid (take_step l k j hlt hlt2 HT.out hx)
          rw [← hx] at hc2
          clear hx
          generalize l[j] = x at hc1 hc2
          go_wp2
          go_quiet (fail)
          go_wp2
          go_roundw
          case rel => exact ⟨j + 1, by omega, by go_num, HS.out, _, rfl⟩
          case measure => simp [intOf]; omega
        · have HS := Lib.hid (same_no l k j hlt hlt2 hx)
          have hne : (!(l[j] == k[j])) = true := by
            simpa using hx
          clear hx
          generalize l[j] = x at hc1 hne
          generalize k[j] = y at hc2 hne
          go_wp2
          go_quiet (fail)
          go_wp2
          go_ret
          exact ⟨by rw [HS.out]; rfl, _, World.drewN_drewN _ _ _⟩
      · obtain rfl : j = l.length := by omega
        have HS := Lib.hid (same_yes l k HLEN.out HT.out)
        go_wp2
        go_ret
        exact ⟨by rw [HS.out]; rfl, _, rfl⟩
  · have he : ((l.length : Int) != (k.length : Int)) = true := by rw [bne_iff_ne]; omega
    have HS := Lib.hid (same_len l k hlen)
    clear hlen
    go_enter Tryz.func51, Tryz.ntmps51
    go_wp2
    go_ret
    exact ⟨by rw [HS.out]; rfl, 0, rfl⟩
set_option maxRecDepth 100000 in
set_option maxHeartbeats 4000000 in
theorem same6_any (a b : Ask) (h k h' k' : Option Addr × Nat × Nat) (w : World) (ha : AskIn w a h k) (hb : AskIn w b h' k') :
    Calls Tryz.prog 106 #[askV a h k, askV b h' k'] w fun e w' => e = .returned (.bool (Ak.same a b)) ∧ Below w.heap.size w w' := by
  obtain ⟨code, addr, count, to, words, bits, and_, or_⟩ := a
  obtain ⟨code', addr', count', to', words', bits', and', or'⟩ := b
  obtain ⟨hA, hn, hc⟩ := h
  obtain ⟨kA, kn, kc⟩ := k
  obtain ⟨hA', hn', hc'⟩ := h'
  obtain ⟨kA', kn', kc'⟩ := k'
  obtain ⟨V, hV⟩ : ∃ V, Ak.same ⟨code, addr, count, to, words, bits, and_, or_⟩ ⟨code', addr', count', to', words', bits', and', or'⟩ = V := ⟨_, rfl⟩
  have HF : Hid (V = (code == code' && addr == addr' && count == count' && to == to' && and_ == and' && or_ == or' && words == words' && bits == bits')) := Lib.hid (by rw [← hV]; rfl)
  rw [hV]
  have n1 := u16_eq and_ and'
  have n2 := u16_eq or_ or'
  have m1 : hn ≤ maxLen := Nat.le_trans ha.hc ha.hm
  have m2 : kn ≤ maxLen := Nat.le_trans ha.kc ha.km
  have e1 : words.length = hn := ha.hn
  have e2 : bits.length = kn := ha.kn
  have e3 : words'.length = hn' := hb.hn
  have e4 : bits'.length = kn' := hb.kn
  have l1 : Lies u16v w hA words := ha.hl
  have l2 : Lies bitv w kA bits := ha.kl
  have l3 : Lies u16v w hA' words' := hb.hl
  have l4 : Lies bitv w kA' bits' := hb.kl
  have E := Lib.hid (And.intro e1 (And.intro e2 (And.intro e3 e4)))
  clear hV ha hb e1 e2 e3 e4
  unfold askV
  cases hw : (words == words') with
  | false =>
    rw [hw] at HF
    go_enter Tryz.func106, Tryz.ntmps106
    go_wp2_with (first | (go_at_call 52; (refine (equal16_any hA hA' hn hn' hc hc' words words' E.out.1 E.out.2.2.1 m1 _ ((l1.alloc _).alloc _) ((l3.alloc _).alloc _)).mono ?_); rintro e w2 ⟨rfl, q, rfl⟩; rw [hw]) | fail)
    all_goals go_ret
    all_goals refine ⟨?_, by first | exact (((Below.refl _ w).alloc (Nat.le_refl _) _).alloc (by simp) _) | exact drewN_below (((Below.refl _ w).alloc (Nat.le_refl _) _).alloc (by simp) _) _⟩
    all_goals rw [HF.out]
    all_goals congr 2
    all_goals simp_all
  | true =>
    rw [hw] at HF
    cases hbt : (bits == bits') with
    | false =>
      rw [hbt] at HF
      go_enter Tryz.func106, Tryz.ntmps106
      go_wp2_with (first | (go_at_call 52; (refine (equal16_any hA hA' hn hn' hc hc' words words' E.out.1 E.out.2.2.1 m1 _ ((l1.alloc _).alloc _) ((l3.alloc _).alloc _)).mono ?_); rintro e w2 ⟨rfl, q, rfl⟩; rw [hw]) | (go_at_call 51; (refine (equalb_any kA kA' kn kn' kc kc' bits bits' E.out.2.1 E.out.2.2.2 m2 _ (((l2.alloc _).alloc _).drewN q) (((l4.alloc _).alloc _).drewN q)).mono ?_); rintro e w3 ⟨rfl, q2, rfl⟩; rw [hbt]) | fail)
      all_goals go_ret
      all_goals refine ⟨?_, by first | exact (((Below.refl _ w).alloc (Nat.le_refl _) _).alloc (by simp) _) | exact drewN_below (((Below.refl _ w).alloc (Nat.le_refl _) _).alloc (by simp) _) _⟩
      all_goals rw [HF.out]
      all_goals congr 2
      all_goals simp_all
    | true =>
      rw [hbt] at HF
      go_enter Tryz.func106, Tryz.ntmps106
      go_wp2_with (first | (go_at_call 52; (refine (equal16_any hA hA' hn hn' hc hc' words words' E.out.1 E.out.2.2.1 m1 _ ((l1.alloc _).alloc _) ((l3.alloc _).alloc _)).mono ?_); rintro e w2 ⟨rfl, q, rfl⟩; rw [hw]) | (go_at_call 51; (refine (equalb_any kA kA' kn kn' kc kc' bits bits' E.out.2.1 E.out.2.2.2 m2 _ (((l2.alloc _).alloc _).drewN q) (((l4.alloc _).alloc _).drewN q)).mono ?_); rintro e w3 ⟨rfl, q2, rfl⟩; rw [hbt]) | fail)
      all_goals go_ret
      all_goals refine ⟨?_, by first | exact (((Below.refl _ w).alloc (Nat.le_refl _) _).alloc (by simp) _) | exact drewN_below (((Below.refl _ w).alloc (Nat.le_refl _) _).alloc (by simp) _) _⟩
      all_goals rw [HF.out]
      all_goals congr 2
      all_goals simp_all
end Go.Proofs.YtlgmjnjhdamknaaGreat

/-
  What comes in as requests, opened.
-/
namespace Go.Proofs.YtlgmjnjhdamknaaGreat
open Go.ChangeShapes Go.WideShapes Go.ChangeAt Go.RowKit

/-- A request's eight cells. -/
def RAsk (w : World) (a : Ask) (cs : List Value) : Prop := ∃ h k : Option Addr × Nat × Nat, askV a h k = .agg cs.toArray ∧ AskIn w a h k ∧ AskNums a

section
variable {P : Program} {H : Type} {enc : TypeId × Value → H} {w : World} {b : Nat} {sp : Nat → Bool} {hd : Bool} {t e ew eb : TypeId}
theorem agg_of {r : Reach} {b0 : Nat} {v : Value} {fs : Array Field} (hu : P.underlying t = some (.struct fs)) (hval : Value.okWide P w r b0 t v) : ∃ cs : Array Value, v = .agg cs := by
  simp only [Value.okWide, hu] at hval
  obtain ⟨cs, rfl, _⟩ := hval
  exact ⟨cs, rfl⟩
theorem open_ask {f0 f1 f2 f3 f4 f5 f6 f7 : Field} (hu : P.underlying t = some (.struct #[f0, f1, f2, f3, f4, f5, f6, f7])) (h0 : P.underlying f0.type = some (.int .i64)) (h1 : P.underlying f1.type = some (.int .i64)) (h2 : P.underlying f2.type = some (.int .i64)) (h3 : P.underlying f3.type = some (.int .i64)) (h4 : P.underlying f4.type = some (.slice ew)) (h5 : P.underlying f5.type = some (.slice eb)) (h6 : P.underlying f6.type = some (.int .u16)) (h7 : P.underlying f7.type = some (.int .u16)) (hew : P.underlying ew = some (.int .u16)) (heb : P.underlying eb = some .bool) (hcw : P.cellsOf ew = 1) (hcb : P.cellsOf eb = 1) (ho0 : f0.offset = 0) (hc0 : P.cellsOf f0.type = 1) (ho1 : f1.offset = 1) (hc1 : P.cellsOf f1.type = 1) (ho2 : f2.offset = 2) (hc2 : P.cellsOf f2.type = 1) (ho3 : f3.offset = 3) (hc3 : P.cellsOf f3.type = 1) (ho4 : f4.offset = 4) (hc4 : P.cellsOf f4.type = 1) (ho5 : f5.offset = 5) (hc5 : P.cellsOf f5.type = 1) (ho6 : f6.offset = 6) (hc6 : P.cellsOf f6.type = 1) (ho7 : f7.offset = 7) (hc7 : P.cellsOf f7.type = 1) (hck : P.cellsOf t = 8) : Opens enc P w b sp hd t (RAsk w) := by
  intro m cs y h hs
  obtain ⟨xs, k, rfl, hx, hl, hxl, hf⟩ := DataW.trod_struct hu h
  rw [hck] at hl
  obtain ⟨x0, x1, x2, x3, x4, x5, x6, x7, rfl⟩ : ∃ x0  x1  x2  x3  x4  x5  x6  x7, xs = [x0, x1, x2, x3, x4, x5, x6, x7] := by
    match xs, hxl with
    | [x0, x1, x2, x3, x4, x5, x6, x7], _ => exact ⟨x0, x1, x2, x3, x4, x5, x6, x7, rfl⟩
  have hs' : Small P t (.agg ([x0, x1, x2, x3, x4, x5, x6, x7].map (·.1))) := by rw [hx] at hs; exact hs
  match cs, hl with
  | [c0, c1, c2, c3, c4, c5, c6, c7], _ =>
    have g0 := hf 0 f0 rfl
    rw [ho0, hc0] at g0
    have g1 := hf 1 f1 rfl
    rw [ho1, hc1] at g1
    have g2 := hf 2 f2 rfl
    rw [ho2, hc2] at g2
    have g3 := hf 3 f3 rfl
    rw [ho3, hc3] at g3
    have g4 := hf 4 f4 rfl
    rw [ho4, hc4] at g4
    have g5 := hf 5 f5 rfl
    rw [ho5, hc5] at g5
    have g6 := hf 6 f6 rfl
    rw [ho6, hc6] at g6
    have g7 := hf 7 f7 rfl
    rw [ho7, hc7] at g7
    obtain ⟨z0, e0, l0, u0⟩ := open_i64 h0 _ _ _ g0 (small_part hu hs' (j := 0) rfl rfl)
    obtain ⟨z1, e1, l1, u1⟩ := open_i64 h1 _ _ _ g1 (small_part hu hs' (j := 1) rfl rfl)
    obtain ⟨z2, e2, l2, u2⟩ := open_i64 h2 _ _ _ g2 (small_part hu hs' (j := 2) rfl rfl)
    obtain ⟨z3, e3, l3, u3⟩ := open_i64 h3 _ _ _ g3 (small_part hu hs' (j := 3) rfl rfl)
    obtain ⟨z4, A4, n4, d4, e4, a4, b4, m4, _, L4⟩ := open_slice h4 hcw (by omega) (open_u16 hew) _ _ _ g4 (small_part hu hs' (j := 4) rfl rfl)
    obtain ⟨z5, A5, n5, d5, e5, a5, b5, m5, _, L5⟩ := open_slice h5 hcb (by omega) (open_bit heb) _ _ _ g5 (small_part hu hs' (j := 5) rfl rfl)
    obtain ⟨z6, e6⟩ := open_u16 h6 _ _ _ g6 (small_part hu hs' (j := 6) rfl rfl)
    obtain ⟨z7, e7⟩ := open_u16 h7 _ _ _ g7 (small_part hu hs' (j := 7) rfl rfl)
    simp at e0 e1 e2 e3 e4 e5 e6 e7
    subst e0 e1 e2 e3 e4 e5 e6 e7
    exact ⟨⟨z0, z1, z2, z3, z4, z5, z6, z7⟩, (A4, n4, d4), (A5, n5, d5), rfl, ⟨a4, b4, m4, L4.lies, a5, b5, m5, L5.lies⟩, ⟨l0, u0, l1, u1, l2, u2, l3, u3⟩⟩
end
end Go.Proofs.YtlgmjnjhdamknaaGreat

/-
  Requests: what bytes may be of (the mathematics).
-/
namespace Go.Proofs.YtlgmjnjhdamknaaGreat
open Go.RowKit

namespace Ak
/-- The request that bytes may be of. -/
def guess (b : List UInt8) : Ask :=
  let c := (b.getD 0 0).toNat
  let a : Ask := { zero with code := c, addr := num b 1 }
  if c = 1 ∨ c = 2 ∨ c = 3 ∨ c = 4 then { a with count := num b 3 }
  else if c = 5 then { a with bits := [num b 3 != 0] }
  else if c = 6 then { a with words := [UInt16.ofNat (num b 3)] }
  else if c = 15 then { a with bits := Word.bitsOf (b.drop 6) (min (num b 3) (8 * (b.drop 6).length)) }
  else if c = 16 then { a with words := Word.ansWords (b.drop 6) }
  else if c = 22 then { a with and_ := UInt16.ofNat (num b 3), or_ := UInt16.ofNat (num b 5) }
  else if c = 23 then { a with count := num b 3, to := num b 5, words := Word.ansWords (b.drop 10) }
  else if c = 43 then (if b.length = 4 then { a with addr := (b.getD 3 0).toNat, count := (b.getD 2 0).toNat } else { a with addr := 0 })
  else a
/-- Parse: the request (or the zero one), and the exception. -/
def parse (b : List UInt8) : Ask × Nat :=
  if b.length = 0 ∨ isC (b.getD 0 0).toNat = false ∨ (b.getD 0 0 = 43 ∧ 1 < b.length ∧ b.getD 1 0 ≠ 14) then (zero, 1)
  else if formed (guess b) = false ∨ text (guess b) ≠ b then (zero, 3)
  else if placed (guess b) = false then (zero, 2)
  else (guess b, 0)
theorem num_lt (b : List UInt8) (k : Nat) : num b k < 65536 := by
  unfold num
  split
  · omega
  · have := (b.getD k 0).toNat_lt
    have := (b.getD (k + 1) 0).toNat_lt
    omega
end Ak

/-- Cells of a request in a row. -/
def askCells (a : Ask) (h k : Option Addr × Nat × Nat) : Array Value := #[.int .i64 a.code, .int .i64 a.addr, .int .i64 a.count, .int .i64 a.to, .slice h.1 h.2.1 h.2.2, .slice k.1 k.2.1 k.2.2, u16v a.and_, u16v a.or_]
/-- A header's cells lie from a block on. -/
def FarH (B : Nat) (h : Option Addr × Nat × Nat) : Prop := ∀ b o s, h.1 = some ⟨b, o, s⟩ → 0 < h.2.1 → B ≤ b
theorem FarH.none (B n c : Nat) : FarH B (Option.none, n, c) := fun _ _ _ h => by cases h
/-- What guess leaves. -/
def GuessPost (w : World) (b : List UInt8) (e : Ending) (w' : World) : Prop :=
  ∃ h k, e = .returned (askV (Ak.guess b) h k) ∧ AskIn w' (Ak.guess b) h k ∧ Below w.heap.size w w' ∧ FarH w.heap.size h ∧ FarH w.heap.size k
theorem row_set {w : World} {g i : Nat} {cs : Array Value} {t : TypeId} {fr : Nat × Nat} (h : w.heap[g]? = some (.cells cs t fr)) (v : Value) : (w.setCell ⟨g, i, none⟩ v).heap[g]? = some (.cells (cs.setIfInBounds i v) t fr) := by
  simp [World.setCell, Array.getElem?_modify, h]
theorem row_set_far {w : World} {g k i : Nat} {o : Obj} (h : w.heap[g]? = some o) (hne : k ≠ g) (v : Value) : (w.setCell ⟨k, i, none⟩ v).heap[g]? = some o := by
  simp only [World.setCell]
  rw [Array.getElem?_modify, if_neg hne]
  exact h
theorem row_eight_free {w : World} {g : Nat} {c0 c1 c2 c3 c4 c5 c6 c7 : Value} {t : TypeId} (h : w.heap[g]? = some (.cells #[c0, c1, c2, c3, c4, c5, c6, c7] t (0, 0))) :
    w.frozen? ⟨g, 0, none⟩ = false ∧ w.frozen? ⟨g, 1, none⟩ = false ∧ w.frozen? ⟨g, 2, none⟩ = false ∧ w.frozen? ⟨g, 3, none⟩ = false ∧ w.frozen? ⟨g, 4, none⟩ = false ∧ w.frozen? ⟨g, 5, none⟩ = false ∧ w.frozen? ⟨g, 6, none⟩ = false ∧ w.frozen? ⟨g, 7, none⟩ = false := by
  simp [World.frozen?, h]
end Go.Proofs.YtlgmjnjhdamknaaGreat
