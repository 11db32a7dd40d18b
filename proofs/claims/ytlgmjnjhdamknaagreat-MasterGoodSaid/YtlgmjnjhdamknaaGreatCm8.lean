
/-
  Small things that both masters want.
-/
import Derived.Test.YtlgmjnjhdamknaaGreatKp
import Derived.Test.YtlgmjnjhdamknaaGreatRc7
import Derived.Test.YtlgmjnjhdamknaaGreatAkm
import Derived.Test.YtlgmjnjhdamknaaGreatRow
import Derived.Test.YtlgmjnjhdamknaaGreatBeq
namespace Go.Proofs.YtlgmjnjhdamknaaGreat
open Go.RowKit

theorem cfg_small {c : Cfg} (h : Ms.right c = true) : 1 ≤ c.gap ∧ c.gap ≤ 20 ∧ 1 ≤ c.wait ∧ c.wait ≤ 1000 ∧ 1 ≤ c.tries ∧ c.tries ≤ 5 := by
  unfold Ms.right at h
  simp only [Bool.and_eq_true, decide_eq_true_eq] at h
  omega

theorem row_later_set {w : World} {g : Nat} {o : Obj} (h : w.heap[g]? = some o) (o' : Obj) : (w.alloc o').heap[g]? = some o := row_later h ((Below.refl _ _).alloc (Nat.le_refl _) o')

theorem stored_four8 {w : World} {g : Nat} {c0 c1 c2 c3 : Value} {t : TypeId} (h : w.heap[g]? = some (.cells #[c0, c1, c2, c3] t (0, 0))) (d0 d1 d2 d3 : Value) :
    ((((w.setCell ⟨g, 0, none⟩ d0).setCell ⟨g, 1, none⟩ d1).setCell ⟨g, 2, none⟩ d2).setCell ⟨g, 3, none⟩ d3).heap[g]? = some (.cells #[d0, d1, d2, d3] t (0, 0)) := by
  simp [World.setCell, Array.getElem?_modify, h]

theorem row_two8 {w : World} {g : Nat} {a b : Value} {t : TypeId} (h : w.heap[g]? = some (.cells #[a, b] t (0, 0))) : w.cell? ⟨g, 0, none⟩ = some a ∧ w.cell? ⟨g, 1, none⟩ = some b := by
  simp [World.cell?, h]

/-- What Read leaves, its answer's cells named. -/
def ARP8 (w : World) (r : Ans × Nat) (e : Ending) (w' : World) : Prop :=
  ∃ (xe : Int) (xh xk xt : Hd), e = .returned (.tuple #[.agg #[.int .i64 xe, .slice xh.1 xh.2.1 xh.2.2, .slice xk.1 xk.2.1 xk.2.2, .slice xt.1 xt.2.1 xt.2.2], .int .i64 ((r.2 : Nat) : Int)]) ∧ r.1.exc = xe ∧ AnsIn w' r.1 xh xk xt ∧ Below w.heap.size w w'

theorem ARPost.named {w w' : World} {r : Ans × Nat} {e : Ending} (h : ARPost w r e w') : ARP8 w r e w' := by
  obtain ⟨xh, xk, xt, he, hx, hb⟩ := h
  exact ⟨_, xh, xk, xt, he, rfl, hx, hb⟩

/-- What a tick tells, as it lies: bytes, and an answer. -/
structure Told8 (w : World) (r : Mst × List UInt8 × MOut) (B : Option Addr) (n cc : Nat) (h k t : Hd) : Prop where
  bn : r.2.1.length = n
  bc : n ≤ cc
  bm : cc ≤ maxLen
  bl : Lies u8v w B r.2.1
  xi : AnsIn w (Ms.ans r.2.2) h k t

theorem Told8.kept {w w' : World} {r : Mst × List UInt8 × MOut} {B : Option Addr} {n cc : Nat} {h k t : Hd} (x : Told8 w r B n cc h k t) (hk : Kept w w') : Told8 w' r B n cc h k t :=
  ⟨x.bn, x.bc, x.bm, x.bl.kept (fun _ => rfl) hk, x.xi.kept hk⟩

theorem Told8.below {w w' : World} {r : Mst × List UInt8 × MOut} {B : Option Addr} {n cc : Nat} {h k t : Hd} (x : Told8 w r B n cc h k t) (hb : Below w.heap.size w w') : Told8 w' r B n cc h k t := x.kept (Kept.below hb)

theorem ask_few {a : Ask} (h : Ak.right a = true) : a.words.length ≤ 2000 ∧ a.bits.length ≤ 2000 := by
  unfold Ak.right at h
  rw [Bool.and_eq_true] at h
  cases Ak.shape h.1 <;> simp <;> omega

theorem ask_lists {w : World} {g : Nat} {t : TypeId} {a : Ask} {h k : Hd} (hr : w.heap[g]? = some (.cells (askCells a h k) t (0, 0))) :
    w.cell? ⟨g, 4, none⟩ = some (.slice h.1 h.2.1 h.2.2) ∧ w.cell? ⟨g, 5, none⟩ = some (.slice k.1 k.2.1 k.2.2) ∧ w.frozen? ⟨g, 4, none⟩ = false ∧ w.frozen? ⟨g, 5, none⟩ = false :=
  ⟨(row_eight hr).2.2.2.2.1, (row_eight hr).2.2.2.2.2.1, (row_eight_free hr).2.2.2.2.1, (row_eight_free hr).2.2.2.2.2.1⟩

theorem fail_nil (c : Cfg) (q t : Nat) (a : Ask) (o : MOut) : (Ms.fail c q t a o).2.1 = [] := by
  unfold Ms.fail
  split <;> rfl
end Go.Proofs.YtlgmjnjhdamknaaGreat

/-
  The landed master: how it lies in memory; Right, New, Busy, turn, end, quiet.
-/
namespace Go.Proofs.YtlgmjnjhdamknaaGreat
open Go.RowKit

def lmCells (c : Cfg) (st tr tk sl : Int) (a : Ask) (h k d : Hd) : Array Value :=
  #[u8v c.unit, .int .i64 c.gap, .int .i64 c.wait, .int .i64 c.tries, .int .i64 st, .int .i64 a.code, .int .i64 a.addr, .int .i64 a.count, .int .i64 a.to, .slice h.1 h.2.1 h.2.2, .slice k.1 k.2.1 k.2.2, u16v a.and_, u16v a.or_, .int .i64 tr, .int .i64 tk, .int .i64 sl, .slice d.1 d.2.1 d.2.2]
/-- The landed master lies in block q, what came in block D (if anywhere); what it asks lies in no block of S, as q and D are. -/
structure LMRaw (w : World) (q D : Nat) (S : Nat → Prop) (c : Cfg) (st tr tk sl : Int) (a : Ask) (h k d : Hd) (b : List UInt8) : Prop where
  row : w.heap[q]? = some (.cells (lmCells c st tr tk sl a h k d) 78 (0, 0))
  ins : AskIn w a h k
  own : w.ownsRow 0 5 1 (.slice d.1 d.2.1 d.2.2) d.2.1 (b.map u8v)
  dm : d.2.1 ≤ 300
  sq : S q
  sD : S D
  lt : ∀ g, S g → g < w.heap.size
  fh : ∀ b o s, h.1 = some ⟨b, o, s⟩ → 0 < h.2.1 → ¬ S b
  fk : ∀ b o s, k.1 = some ⟨b, o, s⟩ → 0 < k.2.1 → ¬ S b
  fd : ∀ g, (Value.slice d.1 d.2.1 d.2.2).ownBlock = some g → g = D ∧ g ≠ q
def LIs (st tr tk : Int) (a : Ask) (b : List UInt8) : MSt → Prop
  | .idle => st = 0
  | .wants f t a' => st = 1 ∧ tk = f ∧ tr = t ∧ a = a'
  | .waits f t a' b' => st = 2 ∧ tk = f ∧ tr = t ∧ a = a' ∧ b = b'
def LMAt (w : World) (S : Nat → Prop) (q D : Nat) (c : Cfg) (m : Mst) : Prop :=
  ∃ st tr tk a h k d b, LMRaw w q D S c st tr tk m.quiet a h k d b ∧ m.quiet ≤ c.gap ∧ LIs st tr tk a b m.st
section
variable {w w' : World} {q D : Nat} {S : Nat → Prop} {c : Cfg} {st tr tk sl st' tr' tk' sl' : Int} {a a' : Ask} {h k d h' k' d' : Hd} {b : List UInt8}
theorem LMRaw.but (x : LMRaw w q D S c st tr tk sl a h k d b) {T : List Nat} (hb : But T w w') (hT : ∀ g ∈ T, S g) (hq : q ∉ T) (hD : D ∉ T) : LMRaw w' q D S c st tr tk sl a h k d b :=
  ⟨row_but x.row hb hq, x.ins.but hb (fun b o s e h0 hm => x.fh b o s e h0 (hT b hm)) (fun b o s e h0 hm => x.fk b o s e h0 (hT b hm)), own_but x.own hb (fun g hg => by rw [(x.fd g hg).1]; exact hD), x.dm, x.sq, x.sD, fun g hs => Nat.lt_of_lt_of_le (x.lt g hs) hb.size, x.fh, x.fk, x.fd⟩
theorem LMRaw.below (x : LMRaw w q D S c st tr tk sl a h k d b) (hb : Below w.heap.size w w') : LMRaw w' q D S c st tr tk sl a h k d b :=
  x.but (But.of_below hb (Nat.le_refl _)) (fun _ hg => absurd hg (List.not_mem_nil)) (List.not_mem_nil) (List.not_mem_nil)
theorem LMRaw.next (x : LMRaw w q D S c st tr tk sl a h k d b) (hb : But [q] w w') (hr : w'.heap[q]? = some (.cells (lmCells c st' tr' tk' sl' a h k d) 78 (0, 0))) : LMRaw w' q D S c st' tr' tk' sl' a h k d b :=
  ⟨hr, x.ins.but hb (fun b o s e h0 hm => x.fh b o s e h0 (List.mem_singleton.1 hm ▸ x.sq)) (fun b o s e h0 hm => x.fk b o s e h0 (List.mem_singleton.1 hm ▸ x.sq)), own_but x.own hb (fun g hg hm => (x.fd g hg).2 (List.mem_singleton.1 hm)), x.dm, x.sq, x.sD, fun g hs => Nat.lt_of_lt_of_le (x.lt g hs) hb.size, x.fh, x.fk, x.fd⟩
/-- What came forgotten. -/
theorem LMRaw.fresh (x : LMRaw w q D S c st tr tk sl a h k d b) (hb : But [q] w w') (hr : w'.heap[q]? = some (.cells (lmCells c st' tr' tk' sl' a h k (none, 0, 0)) 78 (0, 0))) : LMRaw w' q D S c st' tr' tk' sl' a h k (none, 0, 0) [] :=
  ⟨hr, x.ins.but hb (fun b o s e h0 hm => x.fh b o s e h0 (List.mem_singleton.1 hm ▸ x.sq)) (fun b o s e h0 hm => x.fk b o s e h0 (List.mem_singleton.1 hm ▸ x.sq)), World.ownsRow_nil _ _ _ _, Nat.zero_le _, x.sq, x.sD, fun g hs => Nat.lt_of_lt_of_le (x.lt g hs) hb.size, x.fh, x.fk, fun g hg => by cases hg⟩
/-- Another request, and what came forgotten. -/
theorem LMRaw.asks (x : LMRaw w q D S c st tr tk sl a h k d b) (hb : But [q] w w') (hr : w'.heap[q]? = some (.cells (lmCells c st' tr' tk' sl' a' h' k' (none, 0, 0)) 78 (0, 0))) (hi : AskIn w' a' h' k')
    (fh : ∀ b o s, h'.1 = some ⟨b, o, s⟩ → 0 < h'.2.1 → ¬ S b) (fk : ∀ b o s, k'.1 = some ⟨b, o, s⟩ → 0 < k'.2.1 → ¬ S b) : LMRaw w' q D S c st' tr' tk' sl' a' h' k' (none, 0, 0) [] :=
  ⟨hr, hi, World.ownsRow_nil _ _ _ _, Nat.zero_le _, x.sq, x.sD, fun g hs => Nat.lt_of_lt_of_le (x.lt g hs) hb.size, fh, fk, fun g hg => by cases hg⟩
theorem LMRaw.came (x : LMRaw w q D S c st tr tk sl a h k d b) : d.2.1 ≤ d.2.2 ∧ d.2.2 ≤ maxLen ∧ b.length = d.2.1 ∧ Lies u8v w d.1 b := own_at x.own
theorem LMAt.below {m : Mst} (x : LMAt w S q D c m) (hb : Below w.heap.size w w') : LMAt w' S q D c m := by
  obtain ⟨st, tr, tk, a, h, k, d, b, hr, h1, h2⟩ := x
  exact ⟨st, tr, tk, a, h, k, d, b, hr.below hb, h1, h2⟩
theorem LMAt.but {m : Mst} (x : LMAt w S q D c m) {T : List Nat} (hb : But T w w') (hT : ∀ g ∈ T, S g) (hq : q ∉ T) (hD : D ∉ T) : LMAt w' S q D c m := by
  obtain ⟨st, tr, tk, a, h, k, d, b, hr, h1, h2⟩ := x
  exact ⟨st, tr, tk, a, h, k, d, b, hr.but hb hT hq hD, h1, h2⟩
/-- The cells that it loads. -/
theorem lm_loads {t : TypeId} (x : w.heap[q]? = some (.cells (lmCells c st tr tk sl a h k d) t (0, 0))) :
    w.cell? ⟨q, 0, none⟩ = some (u8v c.unit) ∧ w.cell? ⟨q, 1, none⟩ = some (.int .i64 c.gap) ∧ w.cell? ⟨q, 2, none⟩ = some (.int .i64 c.wait) ∧ w.cell? ⟨q, 3, none⟩ = some (.int .i64 c.tries) ∧ w.cell? ⟨q, 4, none⟩ = some (.int .i64 st) ∧ w.cell? ⟨q, 13, none⟩ = some (.int .i64 tr) ∧ w.cell? ⟨q, 14, none⟩ = some (.int .i64 tk) ∧ w.cell? ⟨q, 15, none⟩ = some (.int .i64 sl) ∧ w.cell? ⟨q, 16, none⟩ = some (.slice d.1 d.2.1 d.2.2) := by
  refine ⟨?_, ?_, ?_, ?_, ?_, ?_, ?_, ?_, ?_⟩ <;> rw [cell_of_row _ _ _ _ _ _ x] <;> rfl
theorem lm_asks {t : TypeId} (x : w.heap[q]? = some (.cells (lmCells c st tr tk sl a h k d) t (0, 0))) :
    w.cell? ⟨q, 5, none⟩ = some (.int .i64 a.code) ∧ w.cell? ⟨q, 6, none⟩ = some (.int .i64 a.addr) ∧ w.cell? ⟨q, 7, none⟩ = some (.int .i64 a.count) ∧ w.cell? ⟨q, 8, none⟩ = some (.int .i64 a.to) ∧ w.cell? ⟨q, 9, none⟩ = some (.slice h.1 h.2.1 h.2.2) ∧ w.cell? ⟨q, 10, none⟩ = some (.slice k.1 k.2.1 k.2.2) ∧ w.cell? ⟨q, 11, none⟩ = some (u16v a.and_) ∧ w.cell? ⟨q, 12, none⟩ = some (u16v a.or_) := by
  refine ⟨?_, ?_, ?_, ?_, ?_, ?_, ?_, ?_⟩ <;> rw [cell_of_row _ _ _ _ _ _ x] <;> rfl
theorem lm_frees {o : Array Value} {t : TypeId} (x : w.heap[q]? = some (.cells o t (0, 0))) (i : Nat) : w.frozen? ⟨q, i, none⟩ = false := by
  simp [World.frozen?, x]
/-- Cells of bytes, words .. stay where the request's words And, Or do. -/
theorem lm_kept {t t' : TypeId} (hb : But [q] w w') (x : w.heap[q]? = some (.cells (lmCells c st tr tk sl a h k d) t (0, 0))) (y : w'.heap[q]? = some (.cells (lmCells c st' tr' tk' sl' a' h' k' d') t' (0, 0))) (e1 : a.and_ = a'.and_) (e2 : a.or_ = a'.or_) : Kept w w' := by
  refine Kept.row hb x y fun i v hv hc => ?_
  match i, hc with
  | 0, hc => exact hc
  | 11, hc => rw [show (lmCells c st' tr' tk' sl' a' h' k' d')[11]? = some (u16v a'.and_) from rfl, ← e1]; exact hc
  | 12, hc => rw [show (lmCells c st' tr' tk' sl' a' h' k' d')[12]? = some (u16v a'.or_) from rfl, ← e2]; exact hc
  | 1, hc | 2, hc | 3, hc | 4, hc | 5, hc | 6, hc | 7, hc | 8, hc | 9, hc | 10, hc | 13, hc | 14, hc | 15, hc | 16, hc =>
    exfalso
    simp [lmCells] at hc
    subst hc
    simp [plainV] at hv
  | n + 17, hc => simp [lmCells] at hc
end

set_option maxRecDepth 100000 in
set_option maxHeartbeats 400000 in
theorem within8_any (n m : Int) (w : World) : Calls Tryz.prog 28 #[.int .i64 n, .int .i64 m] w fun e w' => e = .returned (.bool (decide (1 ≤ n) && decide (n ≤ m))) ∧ w' = w := by
  obtain ⟨V, hV⟩ : ∃ V, (decide (1 ≤ n) && decide (n ≤ m)) = V := ⟨_, rfl⟩
  rw [hV]
  have HV := Lib.hid hV
  clear hV
  by_cases h1 : n ≥ 1
  · have hd : decide (n ≥ 1) = true := decide_eq_true h1
    go_enter Tryz.func28, Tryz.ntmps28
    go_wp2_with fail
    all_goals go_ret
    all_goals refine ⟨congrArg (fun v => Ending.returned (Value.bool v)) ?_, rfl⟩
    all_goals rw [← HV.out, Bool.eq_iff_iff]
    all_goals simp only [Bool.and_eq_true, decide_eq_true_eq]
    all_goals omega
  · have hd : decide (n ≥ 1) = false := decide_eq_false h1
    go_enter Tryz.func28, Tryz.ntmps28
    go_wp2_with fail
    all_goals go_ret
    all_goals refine ⟨congrArg (fun v => Ending.returned (Value.bool v)) ?_, rfl⟩
    all_goals rw [← HV.out, Bool.eq_iff_iff]
    all_goals simp only [Bool.and_eq_true, decide_eq_true_eq, Bool.false_eq_true, false_iff]
    all_goals omega
#print axioms within8_any
end Go.Proofs.YtlgmjnjhdamknaaGreat
