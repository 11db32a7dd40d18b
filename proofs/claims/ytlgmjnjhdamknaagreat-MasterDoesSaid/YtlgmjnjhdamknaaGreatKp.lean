
/- A part of the proof of the law MasterDoes. -/
import Derived.Test.YtlgmjnjhdamknaaGreatMem
import Derived.Test.YtlgmjnjhdamknaaGreatRm
import Derived.Test.YtlgmjnjhdamknaaGreatRs2
import Derived.Test.YtlgmjnjhdamknaaGreatAn
import Derived.Test.YtlgmjnjhdamknaaGreatTx
import Derived.Test.YtlgmjnjhdamknaaGreatBeq
import Derived.Test.YtlgmjnjhdamknaaGreatMs
import Derived.WalkLawsBesides
import Derived.Deep.RegionHeld3
import Derived.Test.YtlgmjnjhdamknaaGreatCt
namespace Go.Proofs.YtlgmjnjhdamknaaGreat
open Go.RowKit

def plainV : Value → Bool
  | .int .u8 _ => true
  | .int .u16 _ => true
  | .bool _ => true
  | .string _ => true
  | _ => false
def Kept (w w' : World) : Prop := ∀ b o v, plainV v = true → w.cell? ⟨b, o, none⟩ = some v → w'.cell? ⟨b, o, none⟩ = some v
theorem Kept.below {w w' : World} (h : Below w.heap.size w w') : Kept w w' := fun b o _ _ hc => (h.cell (p := ⟨b, o, none⟩) (World.block_lt_of_cell? w _ hc)).trans hc
theorem Kept.row {w w' : World} {q : Nat} {cs cs' : Array Value} {t t' : TypeId} {f f' : Nat × Nat} (hb : But [q] w w') (h : w.heap[q]? = some (.cells cs t f)) (h' : w'.heap[q]? = some (.cells cs' t' f')) (hcs : ∀ (i : Nat) (v : Value), plainV v = true → cs[i]? = some v → cs'[i]? = some v) : Kept w w' := by
  intro b o v hv hc
  by_cases hq : b = q
  · subst hq
    rw [cell_of_row _ _ _ _ _ _ h] at hc
    rw [cell_of_row _ _ _ _ _ _ h']
    exact hcs o v hv hc
  · exact (hb.cell (p := ⟨b, o, none⟩) (World.block_lt_of_cell? w _ hc) (by simpa using hq)).trans hc
theorem Lies.kept {α : Type} {f : α → Value} (hf : ∀ x, plainV (f x) = true) {w w' : World} {A : Option Addr} {l : List α} (h : Lies f w A l) (hk : Kept w w') : Lies f w' A l := by
  intro j hj
  obtain ⟨b, off, rfl, hc⟩ := h j hj
  exact ⟨b, off, rfl, hk _ _ _ (hf _) hc⟩
theorem AnsIn.kept {w w' : World} {x : Ans} {h k t : Hd} (i : AnsIn w x h k t) (hk : Kept w w') : AnsIn w' x h k t :=
  ⟨i.hn, i.hc, i.hm, i.hl.kept (fun _ => rfl) hk, i.kn, i.kc, i.km, i.kl.kept (fun _ => rfl) hk, i.tn, i.tc, i.tm, i.tl.kept (fun _ => rfl) hk, i.ts⟩

def RMAtA (w : World) (S : Nat → Prop) (q : Nat) (c : Cfg) (a : Ask) (m : Mst) : Prop :=
  ∃ st qt sp tr h k d b, RMRaw w q S c st qt sp tr a h k d b ∧ min qt c.gap = m.quiet ∧ MIs st sp tr a b m.st
theorem RMAtA.at_ {w : World} {S : Nat → Prop} {q : Nat} {c : Cfg} {a : Ask} {m : Mst} (x : RMAtA w S q c a m) : RMAt w S q c m := by
  obtain ⟨st, qt, sp, tr, h, k, d, b, h1, h2, h3⟩ := x
  exact ⟨st, qt, sp, tr, a, h, k, d, b, h1, h2, h3⟩
section
variable {w w' : World} {q : Nat} {S : Nat → Prop} {c : Cfg} {st qt sp tr st' qt' sp' tr' : Int} {a : Ask} {h k d h' k' d' : Hd} {b b' : List UInt8}
theorem RMRaw.next (x : RMRaw w q S c st qt sp tr a h k d b) (hb : But [q] w w') (hr : w'.heap[q]? = some (.cells (rmCells c st' qt' sp' tr' a h k d) 61 (0, 0))) (q0 : 0 ≤ qt') (q1 : qt' ≤ 1000000) : RMRaw w' q S c st' qt' sp' tr' a h k d b :=
  ⟨hr, x.ins.but hb (fun b o s e h0 hm => x.fh b o s e h0 (List.mem_singleton.1 hm ▸ x.sq)) (fun b o s e h0 hm => x.fk b o s e h0 (List.mem_singleton.1 hm ▸ x.sq)), x.bn, x.bc, x.bm, x.bl.but hb (fun b o s e h0 hm => x.fd b o s e (by rw [← x.bn]; exact h0) (List.mem_singleton.1 hm ▸ x.sq)), x.sq, fun b hs => Nat.lt_of_lt_of_le (x.sl b hs) hb.size, x.fh, x.fk, x.fd, q0, q1⟩
theorem RMRaw.fresh (x : RMRaw w q S c st qt sp tr a h k d b) (hb : But [q] w w') (hr : w'.heap[q]? = some (.cells (rmCells c st' qt' sp' tr' a h k (none, 0, 0)) 61 (0, 0))) (q0 : 0 ≤ qt') (q1 : qt' ≤ 1000000) : RMRaw w' q S c st' qt' sp' tr' a h k (none, 0, 0) [] :=
  ⟨hr, x.ins.but hb (fun b o s e h0 hm => x.fh b o s e h0 (List.mem_singleton.1 hm ▸ x.sq)) (fun b o s e h0 hm => x.fk b o s e h0 (List.mem_singleton.1 hm ▸ x.sq)), rfl, zq _, Nat.zero_le _, Lies.nil _ _, x.sq, fun b hs => Nat.lt_of_lt_of_le (x.sl b hs) hb.size, x.fh, x.fk, fun _ _ _ e => (by cases e), q0, q1⟩
theorem RMRaw.kept (x : RMRaw w q S c st qt sp tr a h k d b) {S' : Nat → Prop} (y : RMRaw w' q S' c st' qt' sp' tr' a h' k' d' b') (hb : But [q] w w') : Kept w w' := by
  refine Kept.row hb x.row y.row fun i v hv hc => ?_
  match i, hc with
  | 0, hc => exact hc
  | 14, hc => exact hc
  | 15, hc => exact hc
  | 1, hc | 2, hc | 3, hc | 4, hc | 5, hc | 6, hc | 7, hc | 8, hc | 9, hc | 10, hc | 11, hc | 12, hc | 13, hc | 16, hc =>
    exfalso
    simp [rmCells] at hc
    subst hc
    simp [plainV] at hv
  | n + 17, hc => simp [rmCells] at hc
end
end Go.Proofs.YtlgmjnjhdamknaaGreat

namespace Go.Proofs.YtlgmjnjhdamknaaGreat
open Go.RowKit

def Gave (e : Ending) : Prop := e = .panicked [{ v := .iface 28 (.int .i64 2), recovered := false }]
def RdAt (w : World) (q : Nat) (b : List UInt8) : Prop :=
  ∃ A n c, w.heap[q]? = some (.cells #[.slice A n c] 220 (0, 0)) ∧ b.length = n ∧ n ≤ c ∧ c ≤ maxLen ∧ Lies u8v w A b
theorem row_one {w : World} {g : Nat} {a : Value} {t : TypeId} (h : w.heap[g]? = some (.cells #[a] t (0, 0))) : w.cell? ⟨g, 0, none⟩ = some a ∧ w.frozen? ⟨g, 0, none⟩ = false := by
  simp [World.cell?, World.frozen?, h]
theorem one_stored {w : World} {g : Nat} {a : Value} {t : TypeId} (h : w.heap[g]? = some (.cells #[a] t (0, 0))) (x : Value) : (w.setCell ⟨g, 0, none⟩ x).heap[g]? = some (.cells #[x] t (0, 0)) := by
  simp [World.setCell, Array.getElem?_modify, h]
theorem RdAt.far {w : World} {q : Nat} {b l : List UInt8} {A : Option Addr} (h : RdAt w q b) (hl : Lies u8v w A l) : ∀ b o s, A = some ⟨b, o, s⟩ → 0 < l.length → b ∉ [q] := by
  obtain ⟨A', n, c, hr, -⟩ := h
  refine far_row hr hl fun x i v hv => ?_
  rcases i with _ | i
  · simp at hv; subst hv; simp
  · simp at hv
theorem RdAt.lt {w : World} {q : Nat} {b : List UInt8} (h : RdAt w q b) : q < w.heap.size := by
  obtain ⟨A, n, c, hr, -⟩ := h
  exact row_lt hr
theorem RdAt.below {w w' : World} {q : Nat} {b : List UInt8} (h : RdAt w q b) (hb : Below w.heap.size w w') : RdAt w' q b := by
  obtain ⟨A, n, c, hr, h1, h2, h3, h4⟩ := h
  exact ⟨A, n, c, row_later hr hb, h1, h2, h3, h4.below hb (zq _)⟩
theorem RdAt.but {S : List Nat} {w w' : World} {q : Nat} {b : List UInt8} (h : RdAt w q b) (hb : But S w w') (hq : q ∉ S) (hf : ∀ A, Lies u8v w A b → ∀ b' o s, A = some ⟨b', o, s⟩ → 0 < b.length → b' ∉ S) : RdAt w' q b := by
  obtain ⟨A, n, c, hr, h1, h2, h3, h4⟩ := h
  exact ⟨A, n, c, row_but hr hb hq, h1, h2, h3, h4.but hb (hf A h4)⟩

theorem need_yes (w : World) : Calls Tryz.prog 181 #[.bool true] w fun e w' => e = .returned (.tuple #[]) ∧ w' = w := by
  go_enter Tryz.func181, Tryz.ntmps181
  go_wp2
  first | go_end0 | skip
  exact ⟨rfl, rfl⟩
theorem need_no (w : World) : Calls Tryz.prog 181 #[.bool false] w fun e w' => Gave e ∧ w' = w := by
  go_enter Tryz.func181, Tryz.ntmps181
  go_wp2
  exact ⟨rfl, rfl, rfl⟩

def TookPost (w : World) (q : Nat) (p r : List UInt8) (e : Ending) (w' : World) : Prop :=
  ∃ A c, e = .returned (.slice A p.length c) ∧ p.length ≤ c ∧ c ≤ maxLen ∧ Lies u8v w' A p ∧ RdAt w' q r ∧ But [q] w w'
def GavePost (w : World) (q : Nat) (e : Ending) (w' : World) : Prop := Gave e ∧ But [q] w w'

set_option maxRecDepth 100000 in
set_option maxHeartbeats 1000000 in
theorem take_no (q n : Nat) (b : List UInt8) (hn : b.length < n) (w : World) (h : RdAt w q b) :
    Calls Tryz.prog 185 #[.pointer (some ⟨q, 0, none⟩), .int .i64 n] w (GavePost w q) := by
  obtain ⟨A, m, c, hr, h1, h2, h3, h4⟩ := h
  obtain ⟨hc, hz⟩ := row_one hr
  have e1 : ¬ (n : Int) ≤ (m : Int) := by omega
  have e2 : decide ((n : Int) ≤ (m : Int)) = false := decide_eq_false e1
  clear h1 h2 h3 h4 hr hn
  go_enter Tryz.func185, Tryz.ntmps185
  go_wp2_with fail
  refine (need_no _).mono ?_
  rintro e w' ⟨he, rfl⟩
  obtain rfl := he
  go_wp2_with fail
  exact ⟨rfl, rfl, But.refl _ _⟩
theorem took_end {w : World} {q : Nat} {b : List UInt8} {A A2 : Option Addr} {n m c c' c2 : Nat} (hr : w.heap[q]? = some (.cells #[.slice A m c] 220 (0, 0))) (h1 : b.length = m) (h4 : Lies u8v w A b) (hn : n ≤ m) (hl : Lies u8v w A2 (b.drop n)) (d1 : m - n ≤ c2) (d2 : c2 ≤ maxLen) (d3 : n ≤ c') (d4 : c' ≤ maxLen) :
    TookPost w q (b.take n) (b.drop n) (.returned (.slice A n c')) (w.setCell ⟨q, 0, none⟩ (.slice A2 (m - n) c2)) := by
  have hR : ∀ (l : List UInt8) (B : Option Addr), Lies u8v w B l → ∀ b o s, B = some ⟨b, o, s⟩ → 0 < l.length → b ≠ q := by
    intro l B hB b o s e h0 hq
    refine far_row hr hB (fun x i v hv => ?_) b o s e h0 (by simp [hq])
    rcases i with _ | i
    · simp at hv; subst hv; simp
    · simp at hv
  have htl : (b.take n).length = n := by rw [List.length_take]; omega
  refine ⟨A, c', by rw [htl], by rw [htl]; exact d3, d4, ?_, ⟨A2, m - n, c2, one_stored hr _, by rw [List.length_drop, h1], d1, d2, ?_⟩, (But.refl _ _).setCell (p := ⟨q, 0, none⟩) (.inl (by simp)) _⟩
  · exact (h4.take n).but ((But.refl [q] w).setCell (p := ⟨q, 0, none⟩) (.inl (by simp)) _) (fun b o s e h0 hm => hR _ _ (h4.take n) b o s e h0 (by simpa using hm))
  · exact hl.but ((But.refl [q] w).setCell (p := ⟨q, 0, none⟩) (.inl (by simp)) _) (fun b o s e h0 hm => hR _ _ hl b o s e h0 (by simpa using hm))
theorem drop_past {w : World} {ab ao : Nat} {as_ : Option Nat} {b : List UInt8} (h : Lies u8v w (some ⟨ab, ao, as_⟩) b) (n : Nat) : Lies u8v w (some ((⟨ab, ao, as_⟩ : Addr).add n)) (b.drop n) := by
  rcases b with _ | ⟨x, r⟩
  · rw [List.drop_nil]; exact Lies.nil _ _
  · obtain ⟨b', o', e, _⟩ := h 0 (by simp)
    simp only [Option.some.injEq, Addr.mk.injEq] at e
    obtain ⟨rfl, rfl, rfl⟩ := e
    have hadd : (⟨ab, ao, none⟩ : Addr).add n = ⟨ab, ao + n, none⟩ := by unfold Addr.add; split <;> simp_all
    rw [hadd]
    exact h.drop n
set_option maxRecDepth 100000 in
set_option maxHeartbeats 1000000 in
theorem take_yes (q n : Nat) (b : List UInt8) (hn : n ≤ b.length) (w : World) (h : RdAt w q b) :
    Calls Tryz.prog 185 #[.pointer (some ⟨q, 0, none⟩), .int .i64 n] w (TookPost w q (b.take n) (b.drop n)) := by
  have hfar := fun (A : Option Addr) (l : List UInt8) (hl : Lies u8v w A l) => h.far hl
  obtain ⟨A, m, c, hr, h1, h2, h3, h4⟩ := h
  obtain ⟨hc, hz⟩ := row_one hr
  have hfar4 := hfar _ _ h4
  have e1 : (n : Int) ≤ (m : Int) := by omega
  have e2 : decide ((n : Int) ≤ (m : Int)) = true := decide_eq_true e1
  have htl : (b.take n).length = n := by rw [List.length_take]; omega
  have hlt := row_lt hr
  have HR := qh hr
  have H1 := qh h1
  have H4 := qh h4
  have HF := qh hfar4
  have HM := qh h3
  unfold maxLen at h3
  have hmc : (m : Int) ≤ (c : Int) := by omega
  have hnc : (n : Int) ≤ (c : Int) := by omega
  clear h1 h4 hr hn hfar hfar4
  rcases A with _ | ⟨ab, ao, as_⟩
  · have hm0 : m = 0 := by
      have h5 := H1.out
      rcases b with _ | ⟨x, r⟩
      · simpa using h5.symm
      · obtain ⟨_, _, g, _⟩ := H4.out 0 (by simp)
        cases g
    subst hm0
    obtain rfl : n = 0 := by omega
    clear hmc
    go_enter Tryz.func185, Tryz.ntmps185
    go_wp2_with fail
    refine (need_yes _).mono ?_
    rintro e w' ⟨rfl, rfl⟩
    go_wp2_with fail
    go_ret
    exact took_end (A := none) (A2 := none) HR.out H1.out H4.out (zq _) (by have := H4.out; exact fun j hj => absurd hj (by have := H1.out; rw [List.length_drop]; omega)) (by omega) (by unfold maxLen; omega) (by omega) HM.out
  · clear hmc
    go_enter Tryz.func185, Tryz.ntmps185
    go_wp2_with fail
    refine (need_yes _).mono ?_
    rintro e w' ⟨rfl, rfl⟩
    go_wp2_with fail
    · obtain rfl : c = n := by omega
      have HD : Hid (Lies u8v w' (some ⟨ab, ao, as_⟩) (b.drop c)) := qh (by have h5 := H1.out; rw [List.drop_eq_nil_of_le (by omega)]; exact Lies.nil _ _)
      go_ret
      exact took_end HR.out H1.out H4.out (by omega) HD.out (by omega) (by unfold maxLen; omega) (by omega) HM.out
    · go_ret
      exact took_end HR.out H1.out H4.out (by omega) (drop_past H4.out n) (by omega) (by have := HM.out; omega) (by omega) HM.out
end Go.Proofs.YtlgmjnjhdamknaaGreat

namespace Go.Proofs.YtlgmjnjhdamknaaGreat
open Go.RowKit Go.Shelf


set_option maxRecDepth 100000 in
set_option maxHeartbeats 400000 in
theorem numILay (f : IF) (gof : Nat) (O : OfOK gof f.ix) (b0 b1 sz : Nat) (hs : sz = 1 ∨ sz = 2) (W : World) (c0 : W.cell? ⟨b0, 0, none⟩ = some (.func (.func gof) #[] #[])) (c1 : W.cell? ⟨b1, 0, none⟩ = some (.int .i64 (sz : Int))) (a : Ask) (h k : Option Addr × Nat × Nat) (x : UInt16) (hx : f.get a = (x.toNat : Int))
    (B : Nat) (v : Value) (n : Nat) (xs : List UInt8) (hown : W.ownsRow B 5 1 v n (xs.map u8v)) (hB : B ≤ W.heap.size) (hB0 : b0 < B) (hB1 : b1 < B) (hn : n ≤ 20000) :
    Calls Tryz.prog 148 #[v, askV a h k, .pointer (some ⟨b0, 0, none⟩), .pointer (some ⟨b1, 0, none⟩)] W fun e w' => ∃ A c, e = .returned (.slice A (n + sz) c) ∧ w'.ownsRow B 5 1 (.slice A (n + sz) c) (n + sz) ((xs ++ low x sz).map u8v) ∧ Below B W w' := by
  have eg := O.en
  have hO := O.ca
  have hc := box_cell W (askCells a h k) 40 _ _ (IF.cell f a h k)
  rw [hx] at hc
  unfold askCells at hc
  have l0 := World.block_lt_of_cell? _ _ c0
  have l1 := World.block_lt_of_cell? _ _ c1
  have hb1 : Below W.heap.size W (W.alloc (.cells #[.int .i64 a.code, .int .i64 a.addr, .int .i64 a.count, .int .i64 a.to, .slice h.1 h.2.1 h.2.2, .slice k.1 k.2.1 k.2.2, u16v a.and_, u16v a.or_] 40)) := (Below.refl _ _).alloc (zq _) _
  have d0 := (hb1.cell (p := ⟨b0, 0, none⟩) l0).trans c0
  have d1 := (hb1.cell (p := ⟨b1, 0, none⟩) l1).trans c1
  have HN : Hid (v.ownBlock ≠ some b0 ∧ v.ownBlock ≠ some b1 ∧ v.ownBlock ≠ some W.heap.size) := qh ⟨fun e => absurd (hown.lt _ e).1 (by omega), fun e => absurd (hown.lt _ e).1 (by omega), fun e => absurd (hown.lt _ e).2 (by omega)⟩
  have HP := qh (fun V (ho : World.ownsRow V B 5 1 v n (xs.map u8v)) (hz : B ≤ V.heap.size) => put6_any x sz hs B v n xs V ho hz (by omega))
  have hown1 := hown.alloc (.cells #[.int .i64 a.code, .int .i64 a.addr, .int .i64 a.count, .int .i64 a.to, .slice h.1 h.2.1 h.2.2, .slice k.1 k.2.1 k.2.2, u16v a.and_, u16v a.or_] 40)
  have hown1d : ((W.alloc (.cells #[.int .i64 a.code, .int .i64 a.addr, .int .i64 a.count, .int .i64 a.to, .slice h.1 h.2.1 h.2.2, .slice k.1 k.2.1 k.2.2, u16v a.and_, u16v a.or_] 40)).drew).ownsRow B 5 1 v n (xs.map u8v) := hown1
  have HZ : Hid (B ≤ ((W.alloc (.cells #[.int .i64 a.code, .int .i64 a.addr, .int .i64 a.count, .int .i64 a.to, .slice h.1 h.2.1 h.2.2, .slice k.1 k.2.1 k.2.2, u16v a.and_, u16v a.or_] 40)).drew).heap.size) := qh (Nat.le_trans hB hb1.size)
  have HB : Hid (Below B W ((W.alloc (.cells #[.int .i64 a.code, .int .i64 a.addr, .int .i64 a.count, .int .i64 a.to, .slice h.1 h.2.1 h.2.2, .slice k.1 k.2.1 k.2.2, u16v a.and_, u16v a.or_] 40)).drew)) := qh (drewN_below (hb1.mono hB) 1)
  have hxl := x.toNat_lt
  have e0 : ((W.alloc (.cells #[.int .i64 a.code, .int .i64 a.addr, .int .i64 a.count, .int .i64 a.to, .slice h.1 h.2.1 h.2.2, .slice k.1 k.2.1 k.2.2, u16v a.and_, u16v a.or_] 40)).drew).cell? ⟨b0, 0, none⟩ = some (.func (.func gof) #[] #[]) := d0
  have e1 : ((W.alloc (.cells #[.int .i64 a.code, .int .i64 a.addr, .int .i64 a.count, .int .i64 a.to, .slice h.1 h.2.1 h.2.2, .slice k.1 k.2.1 k.2.2, u16v a.and_, u16v a.or_] 40)).drew).cell? ⟨b1, 0, none⟩ = some (.int .i64 (sz : Int)) := d1
  have e2 : ((W.alloc (.cells #[.int .i64 a.code, .int .i64 a.addr, .int .i64 a.count, .int .i64 a.to, .slice h.1 h.2.1 h.2.2, .slice k.1 k.2.1 k.2.2, u16v a.and_, u16v a.or_] 40)).drew).cell? ⟨W.heap.size, f.ix, none⟩ = some (.int .i64 (x.toNat : Int)) := hc
  have i6 : IntKind.i64.wrap (x.toNat : Int) = (x.toNat : Int) := by rw [IntKind.wrap_i64]; omega
  generalize f.ix = i at *
  clear hown hown1 hx hb1
  unfold Enters at eg
  rw [askV_eq]
  go_enter Tryz.func148, Tryz.ntmps148
  go_wp2_with fail
  go_region_held3 (fun V => V.cell? ⟨b0, 0, none⟩ = some (.func (.func gof) #[] #[]) ∧ V.cell? ⟨b1, 0, none⟩ = some (.int .i64 (sz : Int)) ∧ V.cell? ⟨W.heap.size, i, none⟩ = some (.int .i64 (x.toNat : Int))) (first | with_reducible assumption | exact ⟨e0, e1, e2⟩ | with_reducible exact ⟨f0, f1, f2⟩ | fail) (first | (go_at_fn gof; (with_reducible refine (hO _ _).mono ?_); rintro e w' ⟨rfl, rfl⟩) | (go_at_call 116; (with_reducible refine (HP.out _ hown1d HZ.out).mono ?_); rintro e w' ⟨A2, c2, rfl, hk1, hk2, hk3, hk4⟩; have f0 := grown_cell hk3 e0 HN.out.1; have f1 := grown_cell hk3 e1 HN.out.2.1; have f2 := grown_cell hk3 e2 HN.out.2.2) | fail)
  go_wp2_with fail
  go_ret
  exact ⟨A2, c2, rfl, hk1, HB.out.trans hk2⟩

set_option maxRecDepth 100000 in
set_option maxHeartbeats 400000 in
theorem numIDrop (f : IF) (gof : Nat) (O : OfOK gof f.ix) (b0 : Nat) (W : World) (c0 : W.cell? ⟨b0, 0, none⟩ = some (.func (.func gof) #[] #[])) (q : Nat) {S : Nat → Prop} (a : Ask) (h k : Option Addr × Nat × Nat) (x : AskAt W q S a h k) :
    Calls Tryz.prog 150 #[.pointer (some ⟨q, 0, none⟩), .pointer (some ⟨b0, 0, none⟩)] W fun e w' => (∃ v, e = .returned v) ∧ AskAt w' q S (f.set a 0) h k ∧ But [q] W w' := by
  have eg := O.en
  have hO := O.ca
  have hc := x.cell (IF.cell f a h k)
  have hf := x.free f.ix
  have HS := qh (x.setI f 0)
  have HB := qh (But.one W q f.ix (.int .i64 0))
  unfold u16v at *
  generalize f.ix = i at *
  unfold Enters at eg
  go_enter Tryz.func150, Tryz.ntmps150
  go_wp2_with (go_at_fn gof; refine (hO _ _).mono ?_; rintro e w' ⟨rfl, rfl⟩)
  refine bodyPost_end (results_none rfl _ _ _) rfl ?_
  exact ⟨⟨_, rfl⟩, HS.out, HB.out⟩

set_option maxRecDepth 100000 in
set_option maxHeartbeats 400000 in
theorem numIRead (f : IF) (gof : Nat) (O : OfOK gof f.ix) (b0 b1 : Nat) (sz : Nat) (hs : sz = 1 ∨ sz = 2) (lo hi : Int) (w0 W : World) (c0 : W.cell? ⟨b0, 0, none⟩ = some (.func (.func gof) #[] #[])) (c1 : W.cell? ⟨b1, 0, none⟩ = some (.int .i64 (sz : Int))) (hw : Below w0.heap.size w0 W) (A : Option Addr) (n c : Nat) (b : List UInt8) (hn : b.length = n) (hnc : n ≤ c) (hcm : c ≤ maxLen) (hm : n ≤ 10000) (hb : Lies u8v w0 A b) (q : Nat) {S : Nat → Prop} (a : Ask) (h k : Option Addr × Nat × Nat) (x : AskAt W q S a h k) :
    Calls Tryz.prog 149 #[.slice A n c, .pointer (some ⟨q, 0, none⟩), .pointer (some ⟨b1, 0, none⟩), .pointer (some ⟨b0, 0, none⟩)] W (ReadPost w0 W q S (.num f sz lo hi) b a) := by
  have eg := O.en
  have hO := O.ca
  have hC := cut6_any A n c sz hs b hn hnc hcm (by omega) W (hb.below hw (zq _))
  unfold Enters at eg
  by_cases hlt : n < sz
  · have HC : Hid (Calls Tryz.prog 118 #[.slice A n c, .int .i64 (sz : Int)] W fun e w' => e = .returned (.tuple #[.int .i64 0, .slice none 0 0, .bool false]) ∧ Below W.heap.size W w') := qh (hC.mono fun e w' hh => by
      unfold CutPost at hh
      rw [if_pos hlt] at hh
      exact ⟨hh.2, hh.1⟩)
    have HR : Hid (PK.read b a (.num f sz lo hi) = none) := qh (by unfold PK.read; dsimp only; rw [if_pos (by omega)])
    clear hC hn
    go_enter Tryz.func149, Tryz.ntmps149
    go_wp2_with fail
    refine HC.out.mono ?_
    rintro e w1 ⟨rfl, hb1⟩
    have x1 := x.below hb1
    have d0 := (hb1.cell (p := ⟨b0, 0, none⟩) (World.block_lt_of_cell? _ _ c0)).trans c0
    have hc := x1.cell (IF.cell f a h k)
    have hf := x1.free f.ix
    have HS := qh (x1.setI f 0)
    have HB := qh ((But.of_below hb1 (zq _) [q]).trans (But.one w1 q f.ix (.int .i64 0)))
    unfold u16v at *
    generalize f.ix = i at *
    go_wp2_with (go_at_fn gof; refine (hO _ _).mono ?_; rintro e w' ⟨rfl, rfl⟩)
    go_ret2
    exact ReadPost.no _ _ _ HR.out HS.out HB.out
  · have HC : Hid (Calls Tryz.prog 118 #[.slice A n c, .int .i64 (sz : Int)] W fun e w' => (∃ A' m c', e = .returned (.tuple #[.int .i64 ((cutN b sz).toNat : Int), .slice A' m c', .bool true]) ∧ (b.drop sz).length = m ∧ m ≤ c' ∧ c' ≤ maxLen ∧ Lies u8v w0 A' (b.drop sz)) ∧ Below W.heap.size W w') := qh (hC.mono fun e w' hh => by
      unfold CutPost at hh
      rw [if_neg hlt] at hh
      obtain ⟨h1, A', m, c', h2, h3, h4, h5, h6⟩ := hh
      exact ⟨⟨A', m, c', h2, h3, h4, h5, h6 _ hb⟩, h1⟩)
    have HR : Hid (PK.read b a (.num f sz lo hi) = some (b.drop sz, f.set a ((cutN b sz).toNat : Int))) := qh (by unfold PK.read; dsimp only; rw [if_neg (by omega)])
    have hv := (cutN b sz).toNat_lt
    clear hC hn
    go_enter Tryz.func149, Tryz.ntmps149
    go_wp2_with fail
    refine HC.out.mono ?_
    rintro e w1 ⟨⟨A', m, c', rfl, k1, k2, k3, k4⟩, hb1⟩
    have x1 := x.below hb1
    have d0 := (hb1.cell (p := ⟨b0, 0, none⟩) (World.block_lt_of_cell? _ _ c0)).trans c0
    have hc := x1.cell (IF.cell f a h k)
    have hf := x1.free f.ix
    have HS := qh (x1.setI f ((cutN b sz).toNat : Int))
    have HB := qh ((But.of_below hb1 (zq _) [q]).trans (But.one w1 q f.ix (.int .i64 ((cutN b sz).toNat : Int))))
    unfold u16v at *
    generalize f.ix = i at *
    generalize hV : cutN b sz = V at *
    have i5 : (V.toNat : Int) % 65536 = (V.toNat : Int) := by omega
    go_wp2_with (go_at_fn gof; refine (hO _ _).mono ?_; rintro e w' ⟨rfl, rfl⟩)
    go_ret2
    exact ReadPost.yes HR.out HS.out HB.out k1 k2 k3 k4

set_option maxRecDepth 100000 in
set_option maxHeartbeats 400000 in
theorem numULay (f : UF) (gof : Nat) (O : OfOK gof f.ix) (b0 b1 sz : Nat) (hs : sz = 1 ∨ sz = 2) (W : World) (c0 : W.cell? ⟨b0, 0, none⟩ = some (.func (.func gof) #[] #[])) (c1 : W.cell? ⟨b1, 0, none⟩ = some (.int .i64 (sz : Int))) (a : Ask) (h k : Option Addr × Nat × Nat) (x : UInt16) (hx : f.get a = x)
    (B : Nat) (v : Value) (n : Nat) (xs : List UInt8) (hown : W.ownsRow B 5 1 v n (xs.map u8v)) (hB : B ≤ W.heap.size) (hB0 : b0 < B) (hB1 : b1 < B) (hn : n ≤ 20000) :
    Calls Tryz.prog 163 #[v, askV a h k, .pointer (some ⟨b0, 0, none⟩), .pointer (some ⟨b1, 0, none⟩)] W fun e w' => ∃ A c, e = .returned (.slice A (n + sz) c) ∧ w'.ownsRow B 5 1 (.slice A (n + sz) c) (n + sz) ((xs ++ low x sz).map u8v) ∧ Below B W w' := by
  have eg := O.en
  have hO := O.ca
  have hc := box_cell W (askCells a h k) 40 _ _ (UF.cell f a h k)
  rw [hx] at hc
  unfold u16v at hc
  unfold askCells at hc
  have l0 := World.block_lt_of_cell? _ _ c0
  have l1 := World.block_lt_of_cell? _ _ c1
  have hb1 : Below W.heap.size W (W.alloc (.cells #[.int .i64 a.code, .int .i64 a.addr, .int .i64 a.count, .int .i64 a.to, .slice h.1 h.2.1 h.2.2, .slice k.1 k.2.1 k.2.2, u16v a.and_, u16v a.or_] 40)) := (Below.refl _ _).alloc (zq _) _
  have d0 := (hb1.cell (p := ⟨b0, 0, none⟩) l0).trans c0
  have d1 := (hb1.cell (p := ⟨b1, 0, none⟩) l1).trans c1
  have HN : Hid (v.ownBlock ≠ some b0 ∧ v.ownBlock ≠ some b1 ∧ v.ownBlock ≠ some W.heap.size) := qh ⟨fun e => absurd (hown.lt _ e).1 (by omega), fun e => absurd (hown.lt _ e).1 (by omega), fun e => absurd (hown.lt _ e).2 (by omega)⟩
  have HP := qh (fun V (ho : World.ownsRow V B 5 1 v n (xs.map u8v)) (hz : B ≤ V.heap.size) => put6_any x sz hs B v n xs V ho hz (by omega))
  have hown1 := hown.alloc (.cells #[.int .i64 a.code, .int .i64 a.addr, .int .i64 a.count, .int .i64 a.to, .slice h.1 h.2.1 h.2.2, .slice k.1 k.2.1 k.2.2, u16v a.and_, u16v a.or_] 40)
  have hown1d : ((W.alloc (.cells #[.int .i64 a.code, .int .i64 a.addr, .int .i64 a.count, .int .i64 a.to, .slice h.1 h.2.1 h.2.2, .slice k.1 k.2.1 k.2.2, u16v a.and_, u16v a.or_] 40)).drew).ownsRow B 5 1 v n (xs.map u8v) := hown1
  have HZ : Hid (B ≤ ((W.alloc (.cells #[.int .i64 a.code, .int .i64 a.addr, .int .i64 a.count, .int .i64 a.to, .slice h.1 h.2.1 h.2.2, .slice k.1 k.2.1 k.2.2, u16v a.and_, u16v a.or_] 40)).drew).heap.size) := qh (Nat.le_trans hB hb1.size)
  have HB : Hid (Below B W ((W.alloc (.cells #[.int .i64 a.code, .int .i64 a.addr, .int .i64 a.count, .int .i64 a.to, .slice h.1 h.2.1 h.2.2, .slice k.1 k.2.1 k.2.2, u16v a.and_, u16v a.or_] 40)).drew)) := qh (drewN_below (hb1.mono hB) 1)
  have hxl := x.toNat_lt
  have e0 : ((W.alloc (.cells #[.int .i64 a.code, .int .i64 a.addr, .int .i64 a.count, .int .i64 a.to, .slice h.1 h.2.1 h.2.2, .slice k.1 k.2.1 k.2.2, u16v a.and_, u16v a.or_] 40)).drew).cell? ⟨b0, 0, none⟩ = some (.func (.func gof) #[] #[]) := d0
  have e1 : ((W.alloc (.cells #[.int .i64 a.code, .int .i64 a.addr, .int .i64 a.count, .int .i64 a.to, .slice h.1 h.2.1 h.2.2, .slice k.1 k.2.1 k.2.2, u16v a.and_, u16v a.or_] 40)).drew).cell? ⟨b1, 0, none⟩ = some (.int .i64 (sz : Int)) := d1
  have e2 : ((W.alloc (.cells #[.int .i64 a.code, .int .i64 a.addr, .int .i64 a.count, .int .i64 a.to, .slice h.1 h.2.1 h.2.2, .slice k.1 k.2.1 k.2.2, u16v a.and_, u16v a.or_] 40)).drew).cell? ⟨W.heap.size, f.ix, none⟩ = some (.int .u16 (x.toNat : Int)) := hc
  have i6 : IntKind.i64.wrap (x.toNat : Int) = (x.toNat : Int) := by rw [IntKind.wrap_i64]; omega
  generalize f.ix = i at *
  clear hown hown1 hx hb1
  unfold Enters at eg
  rw [askV_eq]
  go_enter Tryz.func163, Tryz.ntmps163
  go_wp2_with fail
  go_region_held3 (fun V => V.cell? ⟨b0, 0, none⟩ = some (.func (.func gof) #[] #[]) ∧ V.cell? ⟨b1, 0, none⟩ = some (.int .i64 (sz : Int)) ∧ V.cell? ⟨W.heap.size, i, none⟩ = some (.int .u16 (x.toNat : Int))) (first | with_reducible assumption | exact ⟨e0, e1, e2⟩ | with_reducible exact ⟨f0, f1, f2⟩ | fail) (first | (go_at_fn gof; (with_reducible refine (hO _ _).mono ?_); rintro e w' ⟨rfl, rfl⟩) | (go_at_call 116; (with_reducible refine (HP.out _ hown1d HZ.out).mono ?_); rintro e w' ⟨A2, c2, rfl, hk1, hk2, hk3, hk4⟩; have f0 := grown_cell hk3 e0 HN.out.1; have f1 := grown_cell hk3 e1 HN.out.2.1; have f2 := grown_cell hk3 e2 HN.out.2.2) | fail)
  go_wp2_with fail
  go_ret
  exact ⟨A2, c2, rfl, hk1, HB.out.trans hk2⟩

set_option maxRecDepth 100000 in
set_option maxHeartbeats 400000 in
theorem numUDrop (f : UF) (gof : Nat) (O : OfOK gof f.ix) (b0 : Nat) (W : World) (c0 : W.cell? ⟨b0, 0, none⟩ = some (.func (.func gof) #[] #[])) (q : Nat) {S : Nat → Prop} (a : Ask) (h k : Option Addr × Nat × Nat) (x : AskAt W q S a h k) :
    Calls Tryz.prog 165 #[.pointer (some ⟨q, 0, none⟩), .pointer (some ⟨b0, 0, none⟩)] W fun e w' => (∃ v, e = .returned v) ∧ AskAt w' q S (f.set a 0) h k ∧ But [q] W w' := by
  have eg := O.en
  have hO := O.ca
  have hc := x.cell (UF.cell f a h k)
  have hf := x.free f.ix
  have HS := qh (x.setU f 0)
  have HB := qh (But.one W q f.ix (.int .u16 0))
  unfold u16v at *
  generalize f.ix = i at *
  unfold Enters at eg
  go_enter Tryz.func165, Tryz.ntmps165
  go_wp2_with (go_at_fn gof; refine (hO _ _).mono ?_; rintro e w' ⟨rfl, rfl⟩)
  refine bodyPost_end (results_none rfl _ _ _) rfl ?_
  exact ⟨⟨_, rfl⟩, HS.out, HB.out⟩

set_option maxRecDepth 100000 in
set_option maxHeartbeats 400000 in
theorem numURead (f : UF) (gof : Nat) (O : OfOK gof f.ix) (b0 b1 : Nat) (w0 W : World) (c0 : W.cell? ⟨b0, 0, none⟩ = some (.func (.func gof) #[] #[])) (c1 : W.cell? ⟨b1, 0, none⟩ = some (.int .i64 2)) (hw : Below w0.heap.size w0 W) (A : Option Addr) (n c : Nat) (b : List UInt8) (hn : b.length = n) (hnc : n ≤ c) (hcm : c ≤ maxLen) (hm : n ≤ 10000) (hb : Lies u8v w0 A b) (q : Nat) {S : Nat → Prop} (a : Ask) (h k : Option Addr × Nat × Nat) (x : AskAt W q S a h k) :
    Calls Tryz.prog 164 #[.slice A n c, .pointer (some ⟨q, 0, none⟩), .pointer (some ⟨b1, 0, none⟩), .pointer (some ⟨b0, 0, none⟩)] W (ReadPost w0 W q S (.mask f) b a) := by
  have eg := O.en
  have hO := O.ca
  have hC := cut6_any A n c 2 (.inr rfl) b hn hnc hcm (by omega) W (hb.below hw (zq _))
  unfold Enters at eg
  by_cases hlt : n < 2
  · have HC : Hid (Calls Tryz.prog 118 #[.slice A n c, .int .i64 2] W fun e w' => e = .returned (.tuple #[.int .i64 0, .slice none 0 0, .bool false]) ∧ Below W.heap.size W w') := qh (hC.mono fun e w' hh => by
      unfold CutPost at hh
      rw [if_pos hlt] at hh
      exact ⟨hh.2, hh.1⟩)
    have HR : Hid (PK.read b a (.mask f) = none) := qh (by unfold PK.read; dsimp only; rw [if_pos (by omega)])
    clear hC hn
    go_enter Tryz.func164, Tryz.ntmps164
    go_wp2_with fail
    refine HC.out.mono ?_
    rintro e w1 ⟨rfl, hb1⟩
    have x1 := x.below hb1
    have d0 := (hb1.cell (p := ⟨b0, 0, none⟩) (World.block_lt_of_cell? _ _ c0)).trans c0
    have hc := x1.cell (UF.cell f a h k)
    have hf := x1.free f.ix
    have HS := qh (x1.setU f 0)
    have HB := qh ((But.of_below hb1 (zq _) [q]).trans (But.one w1 q f.ix (.int .u16 0)))
    unfold u16v at *
    generalize f.ix = i at *
    go_wp2_with (go_at_fn gof; refine (hO _ _).mono ?_; rintro e w' ⟨rfl, rfl⟩)
    go_ret2
    exact ReadPost.no _ _ _ HR.out HS.out HB.out
  · have HC : Hid (Calls Tryz.prog 118 #[.slice A n c, .int .i64 2] W fun e w' => (∃ A' m c', e = .returned (.tuple #[.int .i64 ((cutN b 2).toNat : Int), .slice A' m c', .bool true]) ∧ (b.drop 2).length = m ∧ m ≤ c' ∧ c' ≤ maxLen ∧ Lies u8v w0 A' (b.drop 2)) ∧ Below W.heap.size W w') := qh (hC.mono fun e w' hh => by
      unfold CutPost at hh
      rw [if_neg hlt] at hh
      obtain ⟨h1, A', m, c', h2, h3, h4, h5, h6⟩ := hh
      exact ⟨⟨A', m, c', h2, h3, h4, h5, h6 _ hb⟩, h1⟩)
    have HR : Hid (PK.read b a (.mask f) = some (b.drop 2, f.set a (cutN b 2))) := qh (by unfold PK.read; dsimp only; rw [if_neg (by omega)])
    have hv := (cutN b 2).toNat_lt
    clear hC hn
    go_enter Tryz.func164, Tryz.ntmps164
    go_wp2_with fail
    refine HC.out.mono ?_
    rintro e w1 ⟨⟨A', m, c', rfl, k1, k2, k3, k4⟩, hb1⟩
    have x1 := x.below hb1
    have d0 := (hb1.cell (p := ⟨b0, 0, none⟩) (World.block_lt_of_cell? _ _ c0)).trans c0
    have hc := x1.cell (UF.cell f a h k)
    have hf := x1.free f.ix
    have HS := qh (x1.setU f (cutN b 2))
    have HB := qh ((But.of_below hb1 (zq _) [q]).trans (But.one w1 q f.ix (.int .u16 ((cutN b 2).toNat : Int))))
    unfold u16v at *
    generalize f.ix = i at *
    generalize hV : cutN b 2 = V at *
    have i5 : (V.toNat : Int) % 65536 = (V.toNat : Int) := by omega
    go_wp2_with (go_at_fn gof; refine (hO _ _).mono ?_; rintro e w' ⟨rfl, rfl⟩)
    go_ret2
    exact ReadPost.yes HR.out HS.out HB.out k1 k2 k3 k4
end Go.Proofs.YtlgmjnjhdamknaaGreat
