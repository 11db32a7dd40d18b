
/- A part of the proof of the law MasterDoes. -/
import Derived.Test.YtlgmjnjhdamknaaGreatMem
import Derived.Test.YtlgmjnjhdamknaaGreatKp
import Derived.Test.YtlgmjnjhdamknaaGreatRc7
import Derived.Test.YtlgmjnjhdamknaaGreatRs2
import Derived.Test.YtlgmjnjhdamknaaGreatRow
import Derived.Test.YtlgmjnjhdamknaaGreatBeq
import Derived.Test.YtlgmjnjhdamknaaGreatRtu
import Derived.LaidEql
import Derived.Stop.Asserts
import Derived.RowKitTokens
import Derived.Laws.IdiomStrings
namespace Go.Proofs.YtlgmjnjhdamknaaGreat
open Go.RowKit

theorem cfg_small {c : Cfg} (h : Ms.right c = true) : 1 ≤ c.gap ∧ c.gap ≤ 20 ∧ 1 ≤ c.wait ∧ c.wait ≤ 1000 ∧ 1 ≤ c.tries ∧ c.tries ≤ 5 := by
  unfold Ms.right at h
  simp only [Bool.and_eq_true, decide_eq_true_eq] at h
  omega

theorem row_later_set {w : World} {g : Nat} {o : Obj} (h : w.heap[g]? = some o) (o' : Obj) : (w.alloc o').heap[g]? = some o := row_later h ((Below.refl _ _).alloc (zq _) o')

theorem stored_four8 {w : World} {g : Nat} {c0 c1 c2 c3 : Value} {t : TypeId} (h : w.heap[g]? = some (.cells #[c0, c1, c2, c3] t (0, 0))) (d0 d1 d2 d3 : Value) :
    ((((w.setCell ⟨g, 0, none⟩ d0).setCell ⟨g, 1, none⟩ d1).setCell ⟨g, 2, none⟩ d2).setCell ⟨g, 3, none⟩ d3).heap[g]? = some (.cells #[d0, d1, d2, d3] t (0, 0)) := by
  simp [World.setCell, Array.getElem?_modify, h]

theorem row_two8 {w : World} {g : Nat} {a b : Value} {t : TypeId} (h : w.heap[g]? = some (.cells #[a, b] t (0, 0))) : w.cell? ⟨g, 0, none⟩ = some a ∧ w.cell? ⟨g, 1, none⟩ = some b := by
  simp [World.cell?, h]

def ARP8 (w : World) (r : Ans × Nat) (e : Ending) (w' : World) : Prop :=
  ∃ (xe : Int) (xh xk xt : Hd), e = .returned (.tuple #[.agg #[.int .i64 xe, .slice xh.1 xh.2.1 xh.2.2, .slice xk.1 xk.2.1 xk.2.2, .slice xt.1 xt.2.1 xt.2.2], .int .i64 ((r.2 : Nat) : Int)]) ∧ r.1.exc = xe ∧ AnsIn w' r.1 xh xk xt ∧ Below w.heap.size w w'

theorem ARPost.named {w w' : World} {r : Ans × Nat} {e : Ending} (h : ARPost w r e w') : ARP8 w r e w' := by
  obtain ⟨xh, xk, xt, he, hx, hb⟩ := h
  exact ⟨_, xh, xk, xt, he, rfl, hx, hb⟩

structure Told8 (w : World) (r : Mst × List UInt8 × MOut) (B : Option Addr) (n cc : Nat) (h k t : Hd) : Prop where
  bn : r.2.1.length = n
  bc : n ≤ cc
  bm : cc ≤ maxLen
  bl : Lies u8v w B r.2.1
  xi : AnsIn w (Ms.ans r.2.2) h k t

theorem ask_few {a : Ask} (h : Ak.right a = true) : a.words.length ≤ 2000 ∧ a.bits.length ≤ 2000 := by
  unfold Ak.right at h
  rw [Bool.and_eq_true] at h
  cases Ak.shape h.1 <;> simp <;> omega

theorem ask_lists {w : World} {g : Nat} {t : TypeId} {a : Ask} {h k : Hd} (hr : w.heap[g]? = some (.cells (askCells a h k) t (0, 0))) :
    w.cell? ⟨g, 4, none⟩ = some (.slice h.1 h.2.1 h.2.2) ∧ w.cell? ⟨g, 5, none⟩ = some (.slice k.1 k.2.1 k.2.2) ∧ w.frozen? ⟨g, 4, none⟩ = false ∧ w.frozen? ⟨g, 5, none⟩ = false :=
  ⟨(row_eight hr).2.2.2.2.1, (row_eight hr).2.2.2.2.2.1, (row_eight_free hr).2.2.2.2.1, (row_eight_free hr).2.2.2.2.2.1⟩

theorem fail_nil (c : Cfg) (q t : Nat) (a : Ask) (o : MOut) : (Ms.fail c q t a o).2.1 = [] := by
  unfold Ms.fail
  split <;> rfl
end Go.Proofs.YtlgmjnjhdamknaaGreat

namespace Go.Proofs.YtlgmjnjhdamknaaGreat
open Go.RowKit

def lmCells (c : Cfg) (st tr tk sl : Int) (a : Ask) (h k d : Hd) : Array Value :=
  #[u8v c.unit, .int .i64 c.gap, .int .i64 c.wait, .int .i64 c.tries, .int .i64 st, .int .i64 a.code, .int .i64 a.addr, .int .i64 a.count, .int .i64 a.to, .slice h.1 h.2.1 h.2.2, .slice k.1 k.2.1 k.2.2, u16v a.and_, u16v a.or_, .int .i64 tr, .int .i64 tk, .int .i64 sl, .slice d.1 d.2.1 d.2.2]
structure LMRaw (w : World) (q D : Nat) (S : Nat → Prop) (c : Cfg) (st tr tk sl : Int) (a : Ask) (h k d : Hd) (b : List UInt8) : Prop where
  row : w.heap[q]? = some (.cells (lmCells c st tr tk sl a h k d) 78 (0, 0))
  ins : AskIn w a h k
  own : w.ownsRow 0 5 1 (.slice d.1 d.2.1 d.2.2) d.2.1 (b.map u8v)
  dm : d.2.1 ≤ 300
  sq : S q
  sD : S D
  lt : ∀ g, S g → g < w.heap.size
  fh : ∀ b o s, h.1 = some ⟨b, o, s⟩ → 0 < h.2.1 → ¬ S b
  fk : ∀ b o s, k.1 = some ⟨b, o, s⟩ → 0 < k.2.1 → ¬ S b
  fd : ∀ g, (Value.slice d.1 d.2.1 d.2.2).ownBlock = some g → g = D ∧ g ≠ q
def LIs (st tr tk : Int) (a : Ask) (b : List UInt8) : MSt → Prop
  | .idle => st = 0
  | .wants f t a' => st = 1 ∧ tk = f ∧ tr = t ∧ a = a'
  | .waits f t a' b' => st = 2 ∧ tk = f ∧ tr = t ∧ a = a' ∧ b = b'
def LMAt (w : World) (S : Nat → Prop) (q D : Nat) (c : Cfg) (m : Mst) : Prop :=
  ∃ st tr tk a h k d b, LMRaw w q D S c st tr tk m.quiet a h k d b ∧ m.quiet ≤ c.gap ∧ LIs st tr tk a b m.st
section
variable {w w' : World} {q D : Nat} {S : Nat → Prop} {c : Cfg} {st tr tk sl st' tr' tk' sl' : Int} {a a' : Ask} {h k d h' k' d' : Hd} {b : List UInt8}
theorem LMRaw.but (x : LMRaw w q D S c st tr tk sl a h k d b) {T : List Nat} (hb : But T w w') (hT : ∀ g ∈ T, S g) (hq : q ∉ T) (hD : D ∉ T) : LMRaw w' q D S c st tr tk sl a h k d b :=
  ⟨row_but x.row hb hq, x.ins.but hb (fun b o s e h0 hm => x.fh b o s e h0 (hT b hm)) (fun b o s e h0 hm => x.fk b o s e h0 (hT b hm)), own_but x.own hb (fun g hg => by rw [(x.fd g hg).1]; exact hD), x.dm, x.sq, x.sD, fun g hs => Nat.lt_of_lt_of_le (x.lt g hs) hb.size, x.fh, x.fk, x.fd⟩
theorem LMRaw.below (x : LMRaw w q D S c st tr tk sl a h k d b) (hb : Below w.heap.size w w') : LMRaw w' q D S c st tr tk sl a h k d b :=
  x.but (But.of_below hb (zq _)) (fun _ hg => absurd hg (List.not_mem_nil)) (List.not_mem_nil) (List.not_mem_nil)
theorem LMRaw.next (x : LMRaw w q D S c st tr tk sl a h k d b) (hb : But [q] w w') (hr : w'.heap[q]? = some (.cells (lmCells c st' tr' tk' sl' a h k d) 78 (0, 0))) : LMRaw w' q D S c st' tr' tk' sl' a h k d b :=
  ⟨hr, x.ins.but hb (fun b o s e h0 hm => x.fh b o s e h0 (List.mem_singleton.1 hm ▸ x.sq)) (fun b o s e h0 hm => x.fk b o s e h0 (List.mem_singleton.1 hm ▸ x.sq)), own_but x.own hb (fun g hg hm => (x.fd g hg).2 (List.mem_singleton.1 hm)), x.dm, x.sq, x.sD, fun g hs => Nat.lt_of_lt_of_le (x.lt g hs) hb.size, x.fh, x.fk, x.fd⟩
theorem LMRaw.fresh (x : LMRaw w q D S c st tr tk sl a h k d b) (hb : But [q] w w') (hr : w'.heap[q]? = some (.cells (lmCells c st' tr' tk' sl' a h k (none, 0, 0)) 78 (0, 0))) : LMRaw w' q D S c st' tr' tk' sl' a h k (none, 0, 0) [] :=
  ⟨hr, x.ins.but hb (fun b o s e h0 hm => x.fh b o s e h0 (List.mem_singleton.1 hm ▸ x.sq)) (fun b o s e h0 hm => x.fk b o s e h0 (List.mem_singleton.1 hm ▸ x.sq)), World.ownsRow_nil _ _ _ _, Nat.zero_le _, x.sq, x.sD, fun g hs => Nat.lt_of_lt_of_le (x.lt g hs) hb.size, x.fh, x.fk, fun g hg => by cases hg⟩
theorem LMRaw.asks (x : LMRaw w q D S c st tr tk sl a h k d b) (hb : But [q] w w') (hr : w'.heap[q]? = some (.cells (lmCells c st' tr' tk' sl' a' h' k' (none, 0, 0)) 78 (0, 0))) (hi : AskIn w' a' h' k')
    (fh : ∀ b o s, h'.1 = some ⟨b, o, s⟩ → 0 < h'.2.1 → ¬ S b) (fk : ∀ b o s, k'.1 = some ⟨b, o, s⟩ → 0 < k'.2.1 → ¬ S b) : LMRaw w' q D S c st' tr' tk' sl' a' h' k' (none, 0, 0) [] :=
  ⟨hr, hi, World.ownsRow_nil _ _ _ _, Nat.zero_le _, x.sq, x.sD, fun g hs => Nat.lt_of_lt_of_le (x.lt g hs) hb.size, fh, fk, fun g hg => by cases hg⟩
theorem LMRaw.came (x : LMRaw w q D S c st tr tk sl a h k d b) : d.2.1 ≤ d.2.2 ∧ d.2.2 ≤ maxLen ∧ b.length = d.2.1 ∧ Lies u8v w d.1 b := own_at x.own
theorem LMAt.below {m : Mst} (x : LMAt w S q D c m) (hb : Below w.heap.size w w') : LMAt w' S q D c m := by
  obtain ⟨st, tr, tk, a, h, k, d, b, hr, h1, h2⟩ := x
  exact ⟨st, tr, tk, a, h, k, d, b, hr.below hb, h1, h2⟩
theorem LMAt.but {m : Mst} (x : LMAt w S q D c m) {T : List Nat} (hb : But T w w') (hT : ∀ g ∈ T, S g) (hq : q ∉ T) (hD : D ∉ T) : LMAt w' S q D c m := by
  obtain ⟨st, tr, tk, a, h, k, d, b, hr, h1, h2⟩ := x
  exact ⟨st, tr, tk, a, h, k, d, b, hr.but hb hT hq hD, h1, h2⟩
theorem lm_loads {t : TypeId} (x : w.heap[q]? = some (.cells (lmCells c st tr tk sl a h k d) t (0, 0))) :
    w.cell? ⟨q, 0, none⟩ = some (u8v c.unit) ∧ w.cell? ⟨q, 1, none⟩ = some (.int .i64 c.gap) ∧ w.cell? ⟨q, 2, none⟩ = some (.int .i64 c.wait) ∧ w.cell? ⟨q, 3, none⟩ = some (.int .i64 c.tries) ∧ w.cell? ⟨q, 4, none⟩ = some (.int .i64 st) ∧ w.cell? ⟨q, 13, none⟩ = some (.int .i64 tr) ∧ w.cell? ⟨q, 14, none⟩ = some (.int .i64 tk) ∧ w.cell? ⟨q, 15, none⟩ = some (.int .i64 sl) ∧ w.cell? ⟨q, 16, none⟩ = some (.slice d.1 d.2.1 d.2.2) := by
  refine ⟨?_, ?_, ?_, ?_, ?_, ?_, ?_, ?_, ?_⟩ <;> rw [cell_of_row _ _ _ _ _ _ x] <;> rfl
theorem lm_asks {t : TypeId} (x : w.heap[q]? = some (.cells (lmCells c st tr tk sl a h k d) t (0, 0))) :
    w.cell? ⟨q, 5, none⟩ = some (.int .i64 a.code) ∧ w.cell? ⟨q, 6, none⟩ = some (.int .i64 a.addr) ∧ w.cell? ⟨q, 7, none⟩ = some (.int .i64 a.count) ∧ w.cell? ⟨q, 8, none⟩ = some (.int .i64 a.to) ∧ w.cell? ⟨q, 9, none⟩ = some (.slice h.1 h.2.1 h.2.2) ∧ w.cell? ⟨q, 10, none⟩ = some (.slice k.1 k.2.1 k.2.2) ∧ w.cell? ⟨q, 11, none⟩ = some (u16v a.and_) ∧ w.cell? ⟨q, 12, none⟩ = some (u16v a.or_) := by
  refine ⟨?_, ?_, ?_, ?_, ?_, ?_, ?_, ?_⟩ <;> rw [cell_of_row _ _ _ _ _ _ x] <;> rfl
theorem lm_frees {o : Array Value} {t : TypeId} (x : w.heap[q]? = some (.cells o t (0, 0))) (i : Nat) : w.frozen? ⟨q, i, none⟩ = false := by
  simp [World.frozen?, x]
theorem lm_kept {t t' : TypeId} (hb : But [q] w w') (x : w.heap[q]? = some (.cells (lmCells c st tr tk sl a h k d) t (0, 0))) (y : w'.heap[q]? = some (.cells (lmCells c st' tr' tk' sl' a' h' k' d') t' (0, 0))) (e1 : a.and_ = a'.and_) (e2 : a.or_ = a'.or_) : Kept w w' := by
  refine Kept.row hb x y fun i v hv hc => ?_
  match i, hc with
  | 0, hc => exact hc
  | 11, hc => rw [show (lmCells c st' tr' tk' sl' a' h' k' d')[11]? = some (u16v a'.and_) from rfl, ← e1]; exact hc
  | 12, hc => rw [show (lmCells c st' tr' tk' sl' a' h' k' d')[12]? = some (u16v a'.or_) from rfl, ← e2]; exact hc
  | 1, hc | 2, hc | 3, hc | 4, hc | 5, hc | 6, hc | 7, hc | 8, hc | 9, hc | 10, hc | 13, hc | 14, hc | 15, hc | 16, hc =>
    exfalso
    simp [lmCells] at hc
    subst hc
    simp [plainV] at hv
  | n + 17, hc => simp [lmCells] at hc
end

set_option maxRecDepth 100000 in
set_option maxHeartbeats 400000 in
theorem within8_any (n m : Int) (w : World) : Calls Tryz.prog 28 #[.int .i64 n, .int .i64 m] w fun e w' => e = .returned (.bool (decide (1 ≤ n) && decide (n ≤ m))) ∧ w' = w := by
  obtain ⟨V, hV⟩ : ∃ V, (decide (1 ≤ n) && decide (n ≤ m)) = V := ⟨_, rfl⟩
  rw [hV]
  have HV := qh hV
  clear hV
  by_cases h1 : n ≥ 1
  · have hd : decide (n ≥ 1) = true := decide_eq_true h1
    go_enter Tryz.func28, Tryz.ntmps28
    go_wp2_with fail
    all_goals go_ret
    all_goals refine ⟨congrArg (fun v => Ending.returned (Value.bool v)) ?_, rfl⟩
    all_goals rw [← HV.out, Bool.eq_iff_iff]
    all_goals simp only [Bool.and_eq_true, decide_eq_true_eq]
    all_goals omega
  · have hd : decide (n ≥ 1) = false := decide_eq_false h1
    go_enter Tryz.func28, Tryz.ntmps28
    go_wp2_with fail
    all_goals go_ret
    all_goals refine ⟨congrArg (fun v => Ending.returned (Value.bool v)) ?_, rfl⟩
    all_goals rw [← HV.out, Bool.eq_iff_iff]
    all_goals simp only [Bool.and_eq_true, decide_eq_true_eq, Bool.false_eq_true, false_iff]
    all_goals omega

end Go.Proofs.YtlgmjnjhdamknaaGreat

namespace Go.Proofs.YtlgmjnjhdamknaaGreat
open Go.RowKit

set_option maxRecDepth 100000 in
set_option maxHeartbeats 4000000 in
theorem right8_any (u : UInt8) (g f t : Int) (w : World) :
    Calls Tryz.prog 10 #[.agg #[u8v u, .int .i64 g, .int .i64 f, .int .i64 t]] w fun e w' => e = .returned (.bool (decide (1 ≤ u.toNat) && decide (u.toNat ≤ 247) && decide (1 ≤ g) && decide (g ≤ 20) && decide (1 ≤ f) && decide (f ≤ 1000) && decide (1 ≤ t) && decide (t ≤ 5))) ∧ Below w.heap.size w w' := by
  have hrow := row_at w #[u8v u, .int .i64 g, .int .i64 f, .int .i64 t] 23 w.heap.size rfl
  have hb : Below w.heap.size w (w.alloc (.cells #[u8v u, .int .i64 g, .int .i64 f, .int .i64 t] 23)) := (Below.refl _ _).alloc (zq _) _
  obtain ⟨p0, p1, p2, p3⟩ := row_quad hrow
  obtain ⟨V, hV⟩ : ∃ V, (decide (1 ≤ u.toNat) && decide (u.toNat ≤ 247) && decide (1 ≤ g) && decide (g ≤ 20) && decide (1 ≤ f) && decide (f ≤ 1000) && decide (1 ≤ t) && decide (t ≤ 5)) = V := ⟨_, rfl⟩
  rw [hV]
  have H1 := within8_any (u.toNat : Int) 247 (w.alloc (.cells #[u8v u, .int .i64 g, .int .i64 f, .int .i64 t] 23))
  have H2 := within8_any g 20 (w.alloc (.cells #[u8v u, .int .i64 g, .int .i64 f, .int .i64 t] 23))
  have H3 := within8_any f 1000 (w.alloc (.cells #[u8v u, .int .i64 g, .int .i64 f, .int .i64 t] 23))
  have H4 := within8_any t 5 (w.alloc (.cells #[u8v u, .int .i64 g, .int .i64 f, .int .i64 t] 23))
  have hu : (decide (1 ≤ u.toNat) && decide (u.toNat ≤ 247)) = (decide ((1 : Int) ≤ (u.toNat : Int)) && decide ((u.toNat : Int) ≤ 247)) := by
    rw [Bool.eq_iff_iff]
    simp only [Bool.and_eq_true, decide_eq_true_eq]
    omega
  obtain ⟨v1, h1⟩ : ∃ v, (decide ((1 : Int) ≤ (u.toNat : Int)) && decide ((u.toNat : Int) ≤ 247)) = v := ⟨_, rfl⟩
  obtain ⟨v2, h2⟩ : ∃ v, (decide (1 ≤ g) && decide (g ≤ 20)) = v := ⟨_, rfl⟩
  obtain ⟨v3, h3⟩ : ∃ v, (decide (1 ≤ f) && decide (f ≤ 1000)) = v := ⟨_, rfl⟩
  obtain ⟨v4, h4⟩ : ∃ v, (decide (1 ≤ t) && decide (t ≤ 5)) = v := ⟨_, rfl⟩
  have hvv : V = (v1 && v2 && v3 && v4) := by
    rw [← hV, ← h1, ← h2, ← h3, ← h4, ← hu]
    simp only [Bool.and_assoc]
  rw [h1] at H1
  rw [h2] at H2
  rw [h3] at H3
  rw [h4] at H4
  have K1 := qh H1
  have K2 := qh H2
  have K3 := qh H3
  have K4 := qh H4
  have HV := qh hvv
  have HB := qh hb
  clear hV hu h1 h2 h3 h4 hvv hrow H1 H2 H3 H4 hb
  have hwr : wrap64 (u.toNat : Int) = (u.toNat : Int) := by
    have := u.toNat_lt
    rw [wrap64]
    omega
  go_enter Tryz.func10, Tryz.ntmps10
  go_wp2_with fail
  refine K1.out.mono ?_
  rintro e w2 ⟨rfl, rfl⟩
  cases v1 with
  | false =>
    go_wp2_with fail
    go_ret
    exact ⟨by rw [HV.out]; simp, HB.out⟩
  | true =>
    go_wp2_with fail
    refine K2.out.mono ?_
    rintro e w3 ⟨rfl, rfl⟩
    cases v2 with
    | false =>
      go_wp2_with fail
      go_ret
      exact ⟨by rw [HV.out]; simp, HB.out⟩
    | true =>
      go_wp2_with fail
      refine K3.out.mono ?_
      rintro e w4 ⟨rfl, rfl⟩
      cases v3 with
      | false =>
        go_wp2_with fail
        go_ret
        exact ⟨by rw [HV.out]; simp, HB.out⟩
      | true =>
        go_wp2_with fail
        refine K4.out.mono ?_
        rintro e w5 ⟨rfl, rfl⟩
        cases v4 with
        | false =>
          go_wp2_with fail
          go_ret
          exact ⟨by rw [HV.out]; simp, HB.out⟩
        | true =>
          go_wp2_with fail
          go_ret
          exact ⟨by rw [HV.out]; simp, HB.out⟩

set_option maxRecDepth 100000 in
set_option maxHeartbeats 400000 in
theorem busy8_any (q : Nat) (c : Cfg) (st tr tk sl : Int) (a : Ask) (h k d : Hd) (w : World) (hr : w.heap[q]? = some (.cells (lmCells c st tr tk sl a h k d) 78 (0, 0))) :
    Calls Tryz.prog 20 #[.pointer (some ⟨q, 0, none⟩)] w fun e w' => e = .returned (.bool (st != 0)) ∧ w' = w := by
  obtain ⟨l0, l1, l2, l3, l4, -⟩ := lm_loads hr
  clear hr
  go_enter Tryz.func20, Tryz.ntmps20
  go_wp2_with fail
  go_ret
  exact ⟨rfl, rfl⟩

set_option maxRecDepth 100000 in
set_option maxHeartbeats 400000 in
theorem quiet8_any (q : Nat) (c : Cfg) (st tr tk sl : Int) (a : Ask) (h k d : Hd) (w : World) (hr : w.heap[q]? = some (.cells (lmCells c st tr tk sl a h k d) 78 (0, 0))) :
    Calls Tryz.prog 97 #[.pointer (some ⟨q, 0, none⟩)] w fun e w' => e = .returned (.bool (decide ((c.gap : Int) ≤ sl))) ∧ ∃ n, w' = w.drewN n := by
  obtain ⟨l0, l1, l2, l3, l4, l5, l6, l7, -⟩ := lm_loads hr
  clear hr
  go_enter Tryz.func97, Tryz.ntmps97
  go_wp2_with fail
  go_quiet (fail)
  go_wp2_with fail
  go_ret
  exact ⟨rfl, _, rfl⟩

theorem lm_turned {w : World} {q : Nat} {c : Cfg} {st tr tk sl : Int} {a : Ask} {h k d : Hd} {T : TypeId} (hr : w.heap[q]? = some (.cells (lmCells c st tr tk sl a h k d) T (0, 0))) (s : Int) (W : World) (hW : (((w.setCell ⟨q, 4, none⟩ (.int .i64 s)).setCell ⟨q, 14, none⟩ (.int .i64 0)).setCell ⟨q, 16, none⟩ (.slice none 0 0)) = W) :
    But [q] w W ∧ W.heap[q]? = some (.cells (lmCells c s tr 0 sl a h k (none, 0, 0)) T (0, 0)) := by
  subst hW
  refine ⟨(((But.one w q 4 _).setCell (p := ⟨q, 14, none⟩) (.inl (List.mem_singleton.2 rfl)) _).setCell (p := ⟨q, 16, none⟩) (.inl (List.mem_singleton.2 rfl)) _), ?_⟩
  rw [row_set (row_set (row_set hr _) _) _]
  rfl
set_option maxRecDepth 100000 in
set_option maxHeartbeats 400000 in
theorem turn8_any (s : Int) (q : Nat) (c : Cfg) (st tr tk sl : Int) (a : Ask) (h k d : Hd) (w : World) (hr : w.heap[q]? = some (.cells (lmCells c st tr tk sl a h k d) 78 (0, 0))) :
    Calls Tryz.prog 40 #[.pointer (some ⟨q, 0, none⟩), .int .i64 s] w fun e w' => e = .returned (.tuple #[]) ∧ But [q] w w' ∧ w'.heap[q]? = some (.cells (lmCells c s tr 0 sl a h k (none, 0, 0)) 78 (0, 0)) := by
  obtain ⟨l0, l1, l2, l3, l4, l5, l6, l7, l8⟩ := lm_loads hr
  have f4 := lm_frees hr 4
  have f14 := lm_frees hr 14
  have f16 := lm_frees hr 16
  have HT := qh (lm_turned hr s _ rfl)
  clear hr
  go_enter Tryz.func40, Tryz.ntmps40
  go_wp2_with fail
  go_end0
  exact ⟨rfl, HT.out⟩

theorem lm_emptied {w : World} {q : Nat} {c : Cfg} {st tr tk sl : Int} {a : Ask} {h k d : Hd} {T : TypeId} (hr : w.heap[q]? = some (.cells (lmCells c st tr tk sl a h k d) T (0, 0))) (W : World) (hW : ((((((((w.setCell ⟨q, 5, none⟩ (.int .i64 0)).setCell ⟨q, 6, none⟩ (.int .i64 0)).setCell ⟨q, 7, none⟩ (.int .i64 0)).setCell ⟨q, 8, none⟩ (.int .i64 0)).setCell ⟨q, 9, none⟩ (.slice none 0 0)).setCell ⟨q, 10, none⟩ (.slice none 0 0)).setCell ⟨q, 11, none⟩ (.int .u16 0)).setCell ⟨q, 12, none⟩ (.int .u16 0)) = W) :
    But [q] w W ∧ W.heap[q]? = some (.cells (lmCells c st tr tk sl Ak.zero (none, 0, 0) (none, 0, 0) d) T (0, 0)) := by
  subst hW
  have hq : q ∈ [q] := List.mem_singleton.2 rfl
  refine ⟨((((((((But.one w q 5 _).setCell (p := ⟨q, 6, none⟩) (.inl hq) _).setCell (p := ⟨q, 7, none⟩) (.inl hq) _).setCell (p := ⟨q, 8, none⟩) (.inl hq) _).setCell (p := ⟨q, 9, none⟩) (.inl hq) _).setCell (p := ⟨q, 10, none⟩) (.inl hq) _).setCell (p := ⟨q, 11, none⟩) (.inl hq) _).setCell (p := ⟨q, 12, none⟩) (.inl hq) _), ?_⟩
  rw [row_set (row_set (row_set (row_set (row_set (row_set (row_set (row_set hr _) _) _) _) _) _) _) _]
  unfold lmCells
  simp only [List.setIfInBounds_toArray, List.set_cons_zero, List.set_cons_succ]
  rfl
set_option maxRecDepth 100000 in
set_option maxHeartbeats 400000 in
theorem end8_any (q : Nat) (c : Cfg) (st tr tk sl : Int) (a : Ask) (h k d : Hd) (w : World) (hr : w.heap[q]? = some (.cells (lmCells c st tr tk sl a h k d) 78 (0, 0))) :
    Calls Tryz.prog 144 #[.pointer (some ⟨q, 0, none⟩)] w fun e w' => e = .returned (.tuple #[]) ∧ But [q] w w' ∧ w'.heap[q]? = some (.cells (lmCells c 0 tr 0 sl Ak.zero (none, 0, 0) (none, 0, 0) (none, 0, 0)) 78 (0, 0)) := by
  obtain ⟨m5, m6, m7, m8, m9, m10, m11, m12⟩ := lm_asks hr
  have f5 := lm_frees hr 5
  have f6 := lm_frees hr 6
  have f7 := lm_frees hr 7
  have f8 := lm_frees hr 8
  have f9 := lm_frees hr 9
  have f10 := lm_frees hr 10
  have f11 := lm_frees hr 11
  have f12 := lm_frees hr 12
  have HE := qh (lm_emptied hr _ rfl)
  have HT := qh (fun W (hW : W.heap[q]? = _) => turn8_any 0 q c st tr tk sl Ak.zero (none, 0, 0) (none, 0, 0) d W hW)
  clear hr
  go_enter Tryz.func144, Tryz.ntmps144
  go_wp2_with fail
  refine (HT.out _ HE.out.2).mono ?_
  rintro e w3 ⟨rfl, hb, hrow⟩
  go_wp2_with fail
  go_end0
  exact ⟨rfl, HE.out.1.trans hb, hrow⟩

def LNewPost (w : World) (u : UInt8) (g f t : Int) (e : Ending) (w' : World) : Prop :=
  Below w.heap.size w w' ∧ ((∃ (c : Cfg) (q : Nat), c.unit = u ∧ (c.gap : Int) = g ∧ (c.wait : Int) = f ∧ (c.tries : Int) = t ∧ Ms.right c = true ∧ e = .returned (.tuple #[.pointer (some ⟨q, 0, none⟩), .int .i64 0]) ∧ w.heap.size ≤ q ∧ LMAt w' (fun b => b = q) q q c ⟨c.gap, .idle⟩) ∨
    ((decide (1 ≤ u.toNat) && decide (u.toNat ≤ 247) && decide (1 ≤ g) && decide (g ≤ 20) && decide (1 ≤ f) && decide (f ≤ 1000) && decide (1 ≤ t) && decide (t ≤ 5)) = false ∧ e = .returned (.tuple #[.pointer none, .int .i64 1])))
set_option maxRecDepth 100000 in
set_option maxHeartbeats 400000 in
theorem new8_any (u : UInt8) (g f t : Int) (w : World) :
    Calls Tryz.prog 8 #[.agg #[u8v u, .int .i64 g, .int .i64 f, .int .i64 t]] w (LNewPost w u g f t) := by
  have hrow := row_at w #[u8v u, .int .i64 g, .int .i64 f, .int .i64 t] 23 w.heap.size rfl
  have hb : Below w.heap.size w (w.alloc (.cells #[u8v u, .int .i64 g, .int .i64 f, .int .i64 t] 23)) := (Below.refl _ _).alloc (zq _) _
  obtain ⟨p0, p1, p2, p3⟩ := row_quad hrow
  have HR := qh (right8_any u g f t (w.alloc (.cells #[u8v u, .int .i64 g, .int .i64 f, .int .i64 t] 23)))
  obtain ⟨V, hV⟩ : ∃ V, (decide (1 ≤ u.toNat) && decide (u.toNat ≤ 247) && decide (1 ≤ g) && decide (g ≤ 20) && decide (1 ≤ f) && decide (f ≤ 1000) && decide (1 ≤ t) && decide (t ≤ 5)) = V := ⟨_, rfl⟩
  rw [hV] at HR
  have HV := qh hV
  have HROW := qh hrow
  have HB := qh hb
  clear hV hrow hb
  go_enter Tryz.func8, Tryz.ntmps8
  go_wp2_with fail
  refine HR.out.mono ?_
  rintro e w2 ⟨rfl, hb2⟩
  have HR2 := qh (row_later HROW.out hb2)
  obtain ⟨s0, s1, s2, s3⟩ := row_quad HR2.out
  clear p0 p1 p2 p3
  cases V with
  | false =>
    go_wp2_with fail
    go_ret2
    exact ⟨HB.out.trans (hb2.mono (by simp)), .inr ⟨HV.out, rfl⟩⟩
  | true =>
    have h := HV.out
    simp only [Bool.and_eq_true, decide_eq_true_eq] at h
    obtain ⟨gn, rfl⟩ := Int.eq_ofNat_of_zero_le (show 0 ≤ g by omega)
    obtain ⟨fn, rfl⟩ := Int.eq_ofNat_of_zero_le (show 0 ≤ f by omega)
    obtain ⟨tn, rfl⟩ := Int.eq_ofNat_of_zero_le (show 0 ≤ t by omega)
    have HH := qh h
    clear h
    go_wp2_with fail
    go_ret2
    have h := HH.out
    have hbw := HB.out.trans (hb2.mono (by simp))
    have hrw := row_at w2 (lmCells ⟨u, gn, fn, tn⟩ 0 0 0 gn Ak.zero (none, 0, 0) (none, 0, 0) (none, 0, 0)) 78 w2.heap.size rfl
    refine ⟨hbw.alloc hbw.size _, .inl ⟨⟨u, gn, fn, tn⟩, w2.heap.size, rfl, rfl, rfl, rfl, ?_, rfl, hbw.size, 0, 0, 0, Ak.zero, (none, 0, 0), (none, 0, 0), (none, 0, 0), [], ⟨hrw, ⟨rfl, zq _, Nat.zero_le _, Lies.nil _ _, rfl, zq _, Nat.zero_le _, Lies.nil _ _⟩, World.ownsRow_nil _ _ _ _, Nat.zero_le _, rfl, rfl, fun b hb => ?_, fun _ _ _ e => by (cases e), fun _ _ _ e => by (cases e), fun _ e => by (cases e)⟩, zq _, rfl⟩⟩
    · simp only [Ms.right, Bool.and_eq_true, decide_eq_true_eq]
      omega
    · subst hb
      simp

end Go.Proofs.YtlgmjnjhdamknaaGreat

namespace Go.Proofs.YtlgmjnjhdamknaaGreat
open Go.RowKit Go.Extern.Stop Go.Stop Go.Extern

theorem callTypeOf (v : Value) (w : World) : (callFunc 137 #[.iface 28 v]).run Tryz.prog w = .ok (.value (.iface 195 (.agg #[.pointer (some ⟨0, 28, none⟩)]))) w := by kernel_rfl
theorem findComparable (v : Value) (w : World) : (Go.method 358 195 v "Comparable").run Tryz.prog w = .ok (210, v) w := by kernel_rfl
theorem callComparable (w : World) : (callFunc 210 #[.agg #[.pointer (some ⟨0, 28, none⟩)]]).run Tryz.prog w = .ok (.value (.bool true)) w := by kernel_rfl
theorem noIsE (v : Value) (xT : TypeId) (w : World) : (Instr.typeAssert (.iface 28 v) xT 197 true).run Tryz.prog w = .ok (.tuple #[.nilIface, .bool false]) w := run_typeAssert_lacksB Tryz.underlying197 (by kernel_rfl) (by kernel_rfl) v xT w
theorem noUnwrapE (v : Value) (xT : TypeId) (w : World) : (Instr.typeAssert (.iface 28 v) xT 200 true).run Tryz.prog w = .ok (.tuple #[.nilIface, .bool false]) w := run_typeAssert_lacksB Tryz.underlying200 (by kernel_rfl) (by kernel_rfl) v xT w
theorem noUnwrapsE (v : Value) (xT : TypeId) (w : World) : (Instr.typeAssert (.iface 28 v) xT 202 true).run Tryz.prog w = .ok (.tuple #[.nilIface, .bool false]) w := run_typeAssert_lacksB Tryz.underlying202 (by kernel_rfl) (by kernel_rfl) v xT w
theorem noIsW (v : Value) (xT : TypeId) (w : World) : (Instr.typeAssert (.iface 139 v) xT 197 true).run Tryz.prog w = .ok (.tuple #[.nilIface, .bool false]) w := run_typeAssert_lacksB Tryz.underlying197 (by kernel_rfl) (by kernel_rfl) v xT w
theorem hasUnwrapW (v : Value) (xT : TypeId) (w : World) : (Instr.typeAssert (.iface 139 v) xT 200 true).run Tryz.prog w = .ok (.tuple #[.iface 139 v, .bool true]) w := run_typeAssert_hasB Tryz.underlying200 (by kernel_rfl) v xT w
theorem findUnwrap (v : Value) (w : World) : (Go.method 358 139 v "Unwrap").run Tryz.prog w = .ok (206, v) w := by kernel_rfl
theorem isComp : (Tryz.prog.info? 28).map (·.comparable) = some true := by kernel_rfl
theorem eql_num (j k : Int) (w : World) : (binOp .eql 103 (.iface 28 (.int .i64 j)) (.iface 28 (.int .i64 k))).run Tryz.prog w = .ok (.bool (j == k)) w := by
  obtain ⟨i, hi, hcmp⟩ := Option.map_eq_some_iff.1 isComp
  have h : ∀ d : Nat, (Op.equalIn (d + 1 + 1) 103 (.iface 28 (.int .i64 j)) (.iface 28 (.int .i64 k))).run Tryz.prog w = .ok (j == k) w := fun d => by
    simp [Op.equalIn, run_underlying Tryz.underlying103, run_underlying Tryz.underlying28, typeInfo, hi, hcmp]
  simp [binOp, Op.equal, Op.maxDepth, h]
theorem is_nil (k : Int) (w : World) : Calls Tryz.prog 93 #[.nilIface, .iface 28 (.int .i64 k)] w fun e w' => e = .returned (.bool false) ∧ w' = w := by
  have hn := run_eql_iface_nil_left (P := Tryz.prog) w 28 (.int .i64 k) Tryz.underlying103
  go_enter Tryz.func93, Tryz.ntmps93
  go_wp2
  go_ret
  exact ⟨rfl, rfl⟩
theorem is_wrapped (s : ByteArray) (j k : Int) (b : Bool) (hb : (j == k) = b) (w : World) :
    Calls Tryz.prog 93 #[.iface 139 (.agg #[.string s, .iface 28 (.int .i64 j)]), .iface 28 (.int .i64 k)] w fun e w' => e = .returned (.bool b) ∧ Below w.heap.size w w' := by
  have tT := callTypeOf
  have mC := findComparable
  have cT := callComparable
  have mU := findUnwrap
  have hjk := fun w => eql_num j k w
  rw [hb] at hjk
  clear hb
  have nE := noIsE
  have uE := noUnwrapE
  have vE := noUnwrapsE
  have nW := noIsW
  have uW := hasUnwrapW
  have hty := run_eql_iface_types (P := Tryz.prog) 139 28 (.agg #[.string s, .iface 28 (.int .i64 j)]) (.int .i64 k) Tryz.underlying103 (by decide)
  go_enter Tryz.func93, Tryz.ntmps93
  go_wp2
  refine wp_loop_rounds 2 ?_
  rw [rounds_succ]
  go_wp2
  rw [rounds_succ]
  cases b with
  | true =>
    go_wp2
    go_ret
    exact ⟨rfl, (Below.refl _ _).alloc (zq _) _⟩
  | false =>
    go_wp2
    go_ret
    exact ⟨rfl, (Below.refl _ _).alloc (zq _) _⟩
end Go.Proofs.YtlgmjnjhdamknaaGreat

namespace Go.Proofs.YtlgmjnjhdamknaaGreat
open Go.RowKit

abbrev faultV (s : ByteArray) (j : Int) : Value := .iface 139 (.agg #[.string s, .iface 28 (.int .i64 j)])

theorem number_nil (w : World) : Calls Tryz.prog 45 #[.nilIface] w fun e w' => e = .returned (.int .i64 0) ∧ w' = w := by
  go_enter Tryz.func45, Tryz.ntmps45
  go_wp2_with (first
    | (go_at_call 93; refine (is_nil _ _).mono ?_; rintro e w2 ⟨rfl, rfl⟩))
  go_ret
  exact ⟨rfl, rfl⟩

theorem number_fault (s : ByteArray) (j : Int) (hj : j = 3 ∨ j = 4 ∨ j = 6) (w : World) :
    Calls Tryz.prog 45 #[faultV s j] w fun e w' => e = .returned (.int .i64 j) ∧ Below w.heap.size w w' := by
  rcases hj with rfl | rfl | rfl
  · go_enter Tryz.func45, Tryz.ntmps45
    go_wp2_with (first
      | (go_at_call 93; refine (is_wrapped s 3 3 true rfl _).mono ?_; rintro e w2 ⟨rfl, h2⟩))
    go_ret
    exact ⟨rfl, h2⟩
  · go_enter Tryz.func45, Tryz.ntmps45
    go_wp2_with fail
    refine (is_wrapped s 4 3 false rfl _).mono ?_
    rintro e w2 ⟨rfl, h2⟩
    go_wp2_with fail
    refine (is_wrapped s 4 4 true rfl _).mono ?_
    rintro e w3 ⟨rfl, h3⟩
    go_wp2_with fail
    go_ret
    exact ⟨rfl, h2.trans (h3.mono h2.size)⟩
  · go_enter Tryz.func45, Tryz.ntmps45
    go_wp2_with fail
    refine (is_wrapped s 6 3 false rfl _).mono ?_
    rintro e w2 ⟨rfl, h2⟩
    go_wp2_with fail
    refine (is_wrapped s 6 4 false rfl _).mono ?_
    rintro e w3 ⟨rfl, h3⟩
    go_wp2_with fail
    refine (is_wrapped s 6 6 true rfl _).mono ?_
    rintro e w4 ⟨rfl, h4⟩
    go_wp2_with fail
    go_ret
    exact ⟨rfl, (h2.trans (h3.mono h2.size)).trans (h4.mono (Nat.le_trans h2.size h3.size))⟩

theorem fit_few (s : ByteArray) (n l m : Int) (h : n < l) (w : World) :
    Calls Tryz.prog 44 #[.string s, .int .i64 n, .int .i64 l, .int .i64 m] w fun e w' => e = .returned (faultV s 3) ∧ w' = w := by
  go_enter Tryz.func44, Tryz.ntmps44
  go_wp2_with fail
  go_ret
  exact ⟨rfl, rfl⟩
theorem fit_many (s : ByteArray) (n l m : Int) (h1 : ¬ n < l) (h : m < n) (w : World) :
    Calls Tryz.prog 44 #[.string s, .int .i64 n, .int .i64 l, .int .i64 m] w fun e w' => e = .returned (faultV s 4) ∧ w' = w := by
  go_enter Tryz.func44, Tryz.ntmps44
  go_wp2_with fail
  go_ret
  exact ⟨rfl, rfl⟩
theorem fit_good (s : ByteArray) (n l m : Int) (h1 : ¬ n < l) (h : ¬ m < n) (w : World) :
    Calls Tryz.prog 44 #[.string s, .int .i64 n, .int .i64 l, .int .i64 m] w fun e w' => e = .returned .nilIface ∧ w' = w := by
  go_enter Tryz.func44, Tryz.ntmps44
  go_wp2_with fail
  go_ret
  exact ⟨rfl, rfl⟩

end Go.Proofs.YtlgmjnjhdamknaaGreat
