
/- A part of the proof of the law MasterDoes. -/
import Derived.Test.YtlgmjnjhdamknaaGreatMem
import Derived.Test.YtlgmjnjhdamknaaGreatMs
import Derived.Test.YtlgmjnjhdamknaaGreatRtu
import Derived.Test.YtlgmjnjhdamknaaGreatRow
import Derived.Test.YtlgmjnjhdamknaaGreatCt
import Derived.Test.YtlgmjnjhdamknaaGreatAn
import Derived.Deep.QuietTactic
import Derived.BigQuiet
import Derived.MapKept
import Derived.Laws.StructEq
namespace Go.Proofs.YtlgmjnjhdamknaaGreat
open Go.RowKit

def rmCells (c : Cfg) (st qt sp tr : Int) (a : Ask) (h k d : Hd) : Array Value :=
  #[u8v c.unit, .int .i64 c.gap, .int .i64 c.wait, .int .i64 c.tries, .int .i64 st, .int .i64 qt, .int .i64 sp, .int .i64 tr, .int .i64 a.code, .int .i64 a.addr, .int .i64 a.count, .int .i64 a.to, .slice h.1 h.2.1 h.2.2, .slice k.1 k.2.1 k.2.2, u16v a.and_, u16v a.or_, .slice d.1 d.2.1 d.2.2]
structure RMRaw (w : World) (q : Nat) (S : Nat → Prop) (c : Cfg) (st qt sp tr : Int) (a : Ask) (h k d : Hd) (b : List UInt8) : Prop where
  row : w.heap[q]? = some (.cells (rmCells c st qt sp tr a h k d) 61 (0, 0))
  ins : AskIn w a h k
  bn : b.length = d.2.1
  bc : d.2.1 ≤ d.2.2
  bm : d.2.2 ≤ maxLen
  bl : Lies u8v w d.1 b
  sq : S q
  sl : ∀ b, S b → b < w.heap.size
  fh : ∀ b o s, h.1 = some ⟨b, o, s⟩ → 0 < h.2.1 → ¬ S b
  fk : ∀ b o s, k.1 = some ⟨b, o, s⟩ → 0 < k.2.1 → ¬ S b
  fd : ∀ b o s, d.1 = some ⟨b, o, s⟩ → 0 < d.2.1 → ¬ S b
  q0 : 0 ≤ qt
  q1 : qt ≤ 1000000
def MIs (st sp tr : Int) (a : Ask) (b : List UInt8) : MSt → Prop
  | .idle => st = 0
  | .wants f t a' => st = 1 ∧ sp = f ∧ tr = t ∧ a = a'
  | .waits f t a' b' => st = 2 ∧ sp = f ∧ tr = t ∧ a = a' ∧ b = b'
def RMAt (w : World) (S : Nat → Prop) (q : Nat) (c : Cfg) (m : Mst) : Prop :=
  ∃ st qt sp tr a h k d b, RMRaw w q S c st qt sp tr a h k d b ∧ min qt c.gap = m.quiet ∧ MIs st sp tr a b m.st
section
variable {w w' : World} {q : Nat} {S : Nat → Prop} {c : Cfg} {st qt sp tr : Int} {a : Ask} {h k d : Hd} {b : List UInt8}
theorem RMRaw.but (x : RMRaw w q S c st qt sp tr a h k d b) {T : List Nat} (hb : But T w w') (hT : ∀ g ∈ T, S g) (hq : q ∉ T) : RMRaw w' q S c st qt sp tr a h k d b :=
  ⟨row_but x.row hb hq, x.ins.but hb (fun b o s e h0 hm => x.fh b o s e h0 (hT b hm)) (fun b o s e h0 hm => x.fk b o s e h0 (hT b hm)), x.bn, x.bc, x.bm, x.bl.but hb (fun b o s e h0 hm => x.fd b o s e (by rw [← x.bn]; exact h0) (hT b hm)), x.sq, fun b hs => Nat.lt_of_lt_of_le (x.sl b hs) hb.size, x.fh, x.fk, x.fd, x.q0, x.q1⟩
theorem RMRaw.below (x : RMRaw w q S c st qt sp tr a h k d b) (hb : Below w.heap.size w w') : RMRaw w' q S c st qt sp tr a h k d b :=
  x.but (But.of_below hb (zq _)) (fun _ hg => absurd hg (List.not_mem_nil)) (List.not_mem_nil)
theorem RMRaw.cell (x : RMRaw w q S c st qt sp tr a h k d b) {i : Nat} {v : Value} (e : (rmCells c st qt sp tr a h k d)[i]? = some v) : w.cell? ⟨q, i, none⟩ = some v := by
  rw [cell_of_row _ _ _ _ _ _ x.row]
  exact e
theorem RMRaw.free (x : RMRaw w q S c st qt sp tr a h k d b) (i : Nat) : w.frozen? ⟨q, i, none⟩ = false := by
  simp [World.frozen?, x.row]
theorem RMRaw.lt (x : RMRaw w q S c st qt sp tr a h k d b) : q < w.heap.size := row_lt x.row
theorem RMRaw.store (x : RMRaw w q S c st qt sp tr a h k d b) {i : Nat} {v : Value} {st' qt' sp' tr' : Int} (e : (rmCells c st qt sp tr a h k d).setIfInBounds i v = rmCells c st' qt' sp' tr' a h k d) (q0 : 0 ≤ qt') (q1 : qt' ≤ 1000000) : RMRaw (w.setCell ⟨q, i, none⟩ v) q S c st' qt' sp' tr' a h k d b :=
  ⟨by rw [row_set x.row, e], x.ins.but (But.one w q i v) (fun b o s e1 h0 hm => x.fh b o s e1 h0 (List.mem_singleton.1 hm ▸ x.sq)) (fun b o s e1 h0 hm => x.fk b o s e1 h0 (List.mem_singleton.1 hm ▸ x.sq)), x.bn, x.bc, x.bm, x.bl.but (But.one w q i v) (fun b o s e1 h0 hm => x.fd b o s e1 (by rw [← x.bn]; exact h0) (List.mem_singleton.1 hm ▸ x.sq)), x.sq, fun b hs => by rw [show (w.setCell ⟨q, i, none⟩ v).heap.size = w.heap.size by simp [World.setCell]]; exact x.sl b hs, x.fh, x.fk, x.fd, q0, q1⟩
theorem RMRaw.storeB (x : RMRaw w q S c st qt sp tr a h k d b) (A : Option Addr) (n cc : Nat) (l : List UInt8) (h1 : l.length = n) (h2 : n ≤ cc) (h3 : cc ≤ maxLen) (h4 : Lies u8v w A l) (h5 : ∀ b o s, A = some ⟨b, o, s⟩ → 0 < n → ¬ S b) : RMRaw (w.setCell ⟨q, 16, none⟩ (.slice A n cc)) q S c st qt sp tr a h k (A, n, cc) l :=
  ⟨by rw [row_set x.row]; rfl, x.ins.but (But.one w q 16 _) (fun b o s e1 h0 hm => x.fh b o s e1 h0 (List.mem_singleton.1 hm ▸ x.sq)) (fun b o s e1 h0 hm => x.fk b o s e1 h0 (List.mem_singleton.1 hm ▸ x.sq)), h1, h2, h3, h4.but (But.one w q 16 _) (fun b o s e1 h0 hm => h5 b o s e1 (by rw [← h1]; exact h0) (List.mem_singleton.1 hm ▸ x.sq)), x.sq, fun b hs => by rw [show (w.setCell ⟨q, 16, none⟩ (.slice A n cc)).heap.size = w.heap.size by simp [World.setCell]]; exact x.sl b hs, x.fh, x.fk, h5, x.q0, x.q1⟩
theorem lies_old {α : Type} {f : α → Value} {w : World} {A : Option Addr} {l : List α} (hl : Lies f w A l) (g o : Nat) (s : Option Nat) (e : A = some ⟨g, o, s⟩) (h0 : 0 < l.length) : g < w.heap.size := by
  obtain ⟨g', o', e', hc⟩ := hl 0 h0
  rw [e] at e'
  have e2 : g = g' := by simpa using congrArg (Option.map Addr.block) e'
  rw [e2]
  exact World.block_lt_of_cell? w _ hc
theorem RMRaw.wide (x : RMRaw w q S c st qt sp tr a h k d b) {S' : Nat → Prop} (hb : Below w.heap.size w w') (h1 : S' q) (h2 : ∀ g, S' g → S g ∨ w.heap.size ≤ g) (h3 : ∀ g, S' g → g < w'.heap.size) : RMRaw w' q S' c st qt sp tr a h k d b := by
  have y := x.below hb
  refine ⟨y.row, y.ins, y.bn, y.bc, y.bm, y.bl, h1, h3, fun g o s e h0 hS => ?_, fun g o s e h0 hS => ?_, fun g o s e h0 hS => ?_, y.q0, y.q1⟩
  · rcases h2 g hS with h4 | h4
    · exact x.fh g o s e h0 h4
    · exact absurd (lies_old x.ins.hl g o s e (by rw [x.ins.hn]; exact h0)) (by omega)
  · rcases h2 g hS with h4 | h4
    · exact x.fk g o s e h0 h4
    · exact absurd (lies_old x.ins.kl g o s e (by rw [x.ins.kn]; exact h0)) (by omega)
  · rcases h2 g hS with h4 | h4
    · exact x.fd g o s e h0 h4
    · exact absurd (lies_old x.bl g o s e (by rw [x.bn]; exact h0)) (by omega)
theorem RMRaw.narrow {S' : Nat → Prop} (x : RMRaw w q S' c st qt sp tr a h k d b) (hS : ∀ g, S g → S' g) (hq : S q) : RMRaw w q S c st qt sp tr a h k d b :=
  ⟨x.row, x.ins, x.bn, x.bc, x.bm, x.bl, hq, fun g hg => x.sl g (hS g hg), fun g o s e h0 hg => x.fh g o s e h0 (hS g hg), fun g o s e h0 hg => x.fk g o s e h0 (hS g hg), fun g o s e h0 hg => x.fd g o s e h0 (hS g hg), x.q0, x.q1⟩
theorem RMAt.below {m : Mst} (x : RMAt w S q c m) (hb : Below w.heap.size w w') : RMAt w' S q c m := by
  obtain ⟨st, qt, sp, tr, a, h, k, d, b, hr, h1, h2⟩ := x
  exact ⟨st, qt, sp, tr, a, h, k, d, b, hr.below hb, h1, h2⟩
theorem RMAt.but {m : Mst} (x : RMAt w S q c m) {T : List Nat} (hb : But T w w') (hT : ∀ g ∈ T, S g) (hq : q ∉ T) : RMAt w' S q c m := by
  obtain ⟨st, qt, sp, tr, a, h, k, d, b, hr, h1, h2⟩ := x
  exact ⟨st, qt, sp, tr, a, h, k, d, b, hr.but hb hT hq, h1, h2⟩
end

set_option maxRecDepth 100000 in
set_option maxHeartbeats 400000 in
theorem rright8_any (u : UInt8) (g f t : Int) (w : World) :
    Calls Tryz.prog 11 #[u8v u, .int .i64 g, .int .i64 f, .int .i64 t] w fun e w' => e = .returned (.bool (decide (1 ≤ u.toNat) && decide (u.toNat ≤ 247) && decide (1 ≤ g) && decide (g ≤ 20) && decide (1 ≤ f) && decide (f ≤ 1000) && decide (1 ≤ t) && decide (t ≤ 5))) ∧ w' = w := by
  obtain ⟨V, hV⟩ : ∃ V, (decide (1 ≤ u.toNat) && decide (u.toNat ≤ 247) && decide (1 ≤ g) && decide (g ≤ 20) && decide (1 ≤ f) && decide (f ≤ 1000) && decide (1 ≤ t) && decide (t ≤ 5)) = V := ⟨_, rfl⟩
  rw [hV]
  have HV := qh hV
  clear hV
  go_enter Tryz.func11, Tryz.ntmps11
  go_wp2_with fail
  all_goals go_ret
  all_goals refine ⟨congrArg (fun v => Ending.returned (Value.bool v)) ?_, rfl⟩
  all_goals rw [← HV.out, Bool.eq_iff_iff]
  all_goals simp only [Bool.and_eq_true, decide_eq_true_eq, Bool.false_eq_true, false_iff]
  all_goals omega


end Go.Proofs.YtlgmjnjhdamknaaGreat

namespace Go.Proofs.YtlgmjnjhdamknaaGreat
open Go.RowKit

theorem str_ne {a b : ByteArray} (h : a ≠ b) : (a == b) = false := by
  cases hb : (a == b) with
  | false => rfl
  | true => exact absurd ((Go.MapKept.bytes_beq a b).1 hb) h
theorem str_self (a : ByteArray) : (a == a) = true := (Go.MapKept.bytes_beq a a).2 rfl
theorem take_none {l k : List ByteArray} (hl : l.length = k.length) (ht : l.take l.length = k.take l.length) : l = k := by
  rwa [List.take_length, hl, List.take_length] at ht
set_option maxRecDepth 100000 in
set_option maxHeartbeats 4000000 in
theorem rsame7_any (x y : Ans) (h k t h' k' t' : Hd) (w : World) (hx : AnsIn w x h k t) (hy : AnsIn w y h' k' t') :
    Calls Tryz.prog 15 #[ansV x h k t, ansV y h' k' t'] w fun e w' => e = .returned (.bool (An.same x y)) ∧ Below w.heap.size w w' := by
  obtain ⟨exc, bits, words, texts⟩ := x
  obtain ⟨exc', bits', words', texts'⟩ := y
  obtain ⟨hA, hn, hc⟩ := h
  obtain ⟨kA, kn, kc⟩ := k
  obtain ⟨tA, tn, tc⟩ := t
  obtain ⟨hA', hn', hc'⟩ := h'
  obtain ⟨kA', kn', kc'⟩ := k'
  obtain ⟨tA', tn', tc'⟩ := t'
  have hb2 : Below w.heap.size w ((w.alloc (.cells #[.int .i64 exc, .slice hA hn hc, .slice kA kn kc, .slice tA tn tc] 51)).alloc (.cells #[.int .i64 exc', .slice hA' hn' hc', .slice kA' kn' kc', .slice tA' tn' tc'] 51)) := ((Below.refl _ _).alloc (zq _) _).alloc (by simp) _
  have e1 := qh (And.intro hx.hn (And.intro hy.hn (And.intro hx.kn (And.intro hy.kn (And.intro hx.tn hy.tn)))))
  have HX := qh (hx.below hb2)
  have HY := qh (hy.below hb2)
  have m1 : hn ≤ maxLen := Nat.le_trans hx.hc hx.hm
  have m2 : kn ≤ maxLen := Nat.le_trans hx.kc hx.km
  have m3 : tn ≤ maxLen := Nat.le_trans hx.tc hx.tm
  simp only at e1
  clear hx hy
  unfold ansV
  obtain ⟨V, hV⟩ : ∃ V, An.same ⟨exc, bits, words, texts⟩ ⟨exc', bits', words', texts'⟩ = V := ⟨_, rfl⟩
  have HF : Hid (V = (exc == exc' && bits == bits' && words == words' && decide (texts = texts'))) := qh (by rw [← hV]; rfl)
  rw [hV]
  clear hV
  go_enter Tryz.func15, Tryz.ntmps15
  by_cases he : exc = exc'
  · subst he
    have hee : (exc != exc) = false := by simp
    go_wp2_with fail
    refine (rsameb_any hA hA' hn hn' hc hc' bits bits' e1.out.1 e1.out.2.1 m1 _ HX.out.hl HY.out.hl).mono ?_
    rintro e w2 ⟨rfl, q, rfl⟩
    cases hbt : (bits == bits') with
    | false =>
      go_wp2_with fail
      go_ret
      exact ⟨by rw [HF.out, hbt]; simp, drewN_below hb2 _⟩
    | true =>
      rw [hbt] at HF
      go_wp2_with fail
      refine (rsame16_any kA kA' kn kn' kc kc' words words' e1.out.2.2.1 e1.out.2.2.2.1 m2 _ (HX.out.kl.drewN q) (HY.out.kl.drewN q)).mono ?_
      rintro e w3 ⟨rfl, q2, rfl⟩
      cases hwt : (words == words') with
      | false =>
        go_wp2_with fail
        go_ret
        exact ⟨by rw [HF.out, hwt]; simp, drewN_below hb2 _⟩
      | true =>
        rw [hwt] at HF
        have hrx := row_later (row_at w #[.int .i64 exc, .slice hA hn hc, .slice kA kn kc, .slice tA tn tc] 51 w.heap.size rfl) ((Below.refl _ _).alloc (zq _) (.cells #[.int .i64 exc, .slice hA' hn' hc', .slice kA' kn' kc', .slice tA' tn' tc'] 51))
        have hry := row_at (w.alloc (.cells #[.int .i64 exc, .slice hA hn hc, .slice kA kn kc, .slice tA tn tc] 51)) #[.int .i64 exc, .slice hA' hn' hc', .slice kA' kn' kc', .slice tA' tn' tc'] 51 (w.heap.size + 1) (by simp)
        have hlx := HX.out.tl
        have hly := HY.out.tl
        clear HX HY
        generalize (w.alloc (.cells #[.int .i64 exc, .slice hA hn hc, .slice kA kn kc, .slice tA tn tc] 51)).alloc (.cells #[.int .i64 exc, .slice hA' hn' hc', .slice kA' kn' kc', .slice tA' tn' tc'] 51) = W at *
        rw [World.drewN_drewN]
        generalize q + q2 = q3
        obtain ⟨-, -, -, zx⟩ := row_quad hrx
        obtain ⟨-, -, -, zy⟩ := row_quad hry
        have HLX := qh hlx
        have HLY := qh hly
        clear hrx hry hlx hly
        by_cases hnt : tn = tn'
        · subst hnt
          have hne : ((tn : Int) != (tn : Int)) = false := by simp
          have HLL : Hid (texts.length = tn ∧ texts'.length = tn) := qh ⟨e1.out.2.2.2.2.1, e1.out.2.2.2.2.2⟩
          unfold maxLen at m3
          clear e1
          go_wp2_with fail
          go_loopw [5] (fun i wr => ∃ j : Nat, j ≤ tn ∧ i = .int .i64 j ∧ texts.take j = texts'.take j ∧ ∃ q, wr = W.drewN q) (fun i _ => tn - (intOf i).toNat)
          case atStart => exact ⟨0, Nat.zero_le _, rfl, rfl, _, rfl⟩
          case round =>
            obtain ⟨j, hj, rfl, ht, q4, rfl⟩ := hrel
            have HT := qh ht
            clear ht
            by_cases hlt : j < tn
            · have hl1 : j < texts.length := by rw [HLL.out.1]; exact hlt
              have hl2 : j < texts'.length := by rw [HLL.out.2]; exact hlt
              obtain ⟨b1, o1, rfl, hc1⟩ := HLX.out j hl1
              obtain ⟨b2, o2, rfl, hc2⟩ := HLY.out j hl2
              have i1 : (j : Int) < (tn : Int) := by omega
              by_cases hx : texts[j] = texts'[j]
              · have HS := qh (take_step texts texts' j hl1 hl2 HT.out hx)
                rw [← hx] at hc2
                have hq := str_self texts[j]
                clear hx
                generalize texts[j] = s at *
                go_wp2_with fail
                go_quiet (fail)
                go_wp2_with fail
                go_roundw
                case rel => exact ⟨j + 1, by omega, by go_num, HS.out, _, rfl⟩
                case measure => simp [intOf]; omega
              · have HV : Hid (V = false) := qh (by
                  rw [HF.out, decide_eq_false (by rintro rfl; exact hx rfl)]; simp)
                have hq := str_ne hx
                rw [Go.beq_toListBytes] at hq
                clear hx
                generalize texts[j] = s at *
                generalize texts'[j] = s' at *
                go_wp2_with fail
                go_quiet (fail)
                go_wp2_with fail
                go_ret
                exact ⟨by rw [HV.out]; rfl, drewN_below (drewN_below hb2 _) _⟩
            · obtain rfl : j = tn := by omega
              have HV : Hid (V = true) := qh (by
                rw [HF.out, decide_eq_true (take_none (HLL.out.1.trans HLL.out.2.symm) (by rw [HLL.out.1]; exact HT.out))]; simp)
              go_wp2_with fail
              go_ret
              exact ⟨by rw [HV.out]; rfl, drewN_below hb2 _⟩
        · have hne : ((tn : Int) != (tn' : Int)) = true := by rw [bne_iff_ne]; omega
          have HV : Hid (V = false) := qh (by
            rw [HF.out, decide_eq_false (by rintro rfl; exact hnt (e1.out.2.2.2.2.1.symm.trans e1.out.2.2.2.2.2))]; simp)
          go_wp2_with fail
          go_ret
          exact ⟨by rw [HV.out]; rfl, drewN_below hb2 _⟩
  · have hee : (exc != exc') = true := by rw [bne_iff_ne]; exact he
    go_wp2_with fail
    go_ret
    exact ⟨by rw [HF.out]; simp [he], hb2⟩
end Go.Proofs.YtlgmjnjhdamknaaGreat
