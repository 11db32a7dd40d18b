
/-
  The landed ask: a request in a variable; its parts (the mathematics); what is asked of the four function values of a part.
-/
import Derived.Test.YtcbkbdoaaaofjaaGreatCt
import Derived.Test.YtcbkbdoaaaofjaaGreatNu
namespace Go.Proofs.YtcbkbdoaaaofjaaGreat
open Go.RowKit Go.Shelf

theorem AskIn.but {S : List Nat} {w w' : World} {a : Ask} {h k : Option Addr × Nat × Nat} (x : AskIn w a h k) (hb : But S w w') (fh : ∀ b o s, h.1 = some ⟨b, o, s⟩ → 0 < h.2.1 → b ∉ S) (fk : ∀ b o s, k.1 = some ⟨b, o, s⟩ → 0 < k.2.1 → b ∉ S) : AskIn w' a h k :=
  ⟨x.hn, x.hc, x.hm, x.hl.but hb (fun b o s e h0 => fh b o s e (by rw [← x.hn]; exact h0)), x.kn, x.kc, x.km, x.kl.but hb (fun b o s e h0 => fk b o s e (by rw [← x.kn]; exact h0))⟩

/-- A request lies in the variable of block q; its lists lie in no block of S, as q is. -/
structure AskAt (w : World) (q : Nat) (S : Nat → Prop) (a : Ask) (h k : Option Addr × Nat × Nat) : Prop where
  row : w.heap[q]? = some (.cells (askCells a h k) 26 (0, 0))
  ins : AskIn w a h k
  sq : S q
  sl : ∀ b, S b → b < w.heap.size
  fh : ∀ b o s, h.1 = some ⟨b, o, s⟩ → 0 < h.2.1 → ¬ S b
  fk : ∀ b o s, k.1 = some ⟨b, o, s⟩ → 0 < k.2.1 → ¬ S b

section
variable {w w' : World} {q : Nat} {S : Nat → Prop} {a : Ask} {h k : Option Addr × Nat × Nat}
theorem AskAt.lt (x : AskAt w q S a h k) : q < w.heap.size := row_lt x.row
theorem AskAt.below (x : AskAt w q S a h k) (hb : Below w.heap.size w w') : AskAt w' q S a h k := ⟨row_later x.row hb, x.ins.below hb, x.sq, fun b hs => Nat.lt_of_lt_of_le (x.sl b hs) hb.size, x.fh, x.fk⟩
theorem AskAt.cell (x : AskAt w q S a h k) {i : Nat} {v : Value} (e : (askCells a h k)[i]? = some v) : w.cell? ⟨q, i, none⟩ = some v := by
  rw [cell_of_row _ _ _ _ _ _ x.row]
  exact e
theorem AskAt.free (x : AskAt w q S a h k) (i : Nat) : w.frozen? ⟨q, i, none⟩ = false := by
  simp [World.frozen?, x.row]
theorem But.one (w : World) (q i : Nat) (v : Value) : But [q] w (w.setCell ⟨q, i, none⟩ v) := (But.refl _ _).setCell (p := ⟨q, i, none⟩) (.inl (List.mem_singleton.2 rfl)) v
/-- A store into the variable. -/
theorem AskAt.store (x : AskAt w q S a h k) {i : Nat} {v : Value} {a' : Ask} {h' k' : Option Addr × Nat × Nat} (e : (askCells a h k).setIfInBounds i v = askCells a' h' k') (hi : AskIn w a' h' k')
    (fh : ∀ b o s, h'.1 = some ⟨b, o, s⟩ → 0 < h'.2.1 → ¬ S b) (fk : ∀ b o s, k'.1 = some ⟨b, o, s⟩ → 0 < k'.2.1 → ¬ S b) : AskAt (w.setCell ⟨q, i, none⟩ v) q S a' h' k' :=
  ⟨by rw [row_set x.row, e], hi.but (But.one w q i v) (fun b o s e1 h0 hm => fh b o s e1 h0 (List.mem_singleton.1 hm ▸ x.sq)) (fun b o s e1 h0 hm => fk b o s e1 h0 (List.mem_singleton.1 hm ▸ x.sq)), x.sq, fun b hs => by rw [show (w.setCell ⟨q, i, none⟩ v).heap.size = w.heap.size by simp [World.setCell]]; exact x.sl b hs, fh, fk⟩
theorem AskIn.of (x : AskIn w a h k) {a' : Ask} (e1 : a'.words = a.words) (e2 : a'.bits = a.bits) : AskIn w a' h k :=
  ⟨by rw [e1]; exact x.hn, x.hc, x.hm, by rw [e1]; exact x.hl, by rw [e2]; exact x.kn, x.kc, x.km, by rw [e2]; exact x.kl⟩
theorem AskAt.setI (x : AskAt w q S a h k) (f : IF) (n : Int) : AskAt (w.setCell ⟨q, f.ix, none⟩ (.int .i64 n)) q S (f.set a n) h k :=
  x.store (by cases f <;> rfl) (x.ins.of (by cases f <;> rfl) (by cases f <;> rfl)) x.fh x.fk
theorem AskAt.setU (x : AskAt w q S a h k) (f : UF) (n : UInt16) : AskAt (w.setCell ⟨q, f.ix, none⟩ (u16v n)) q S (f.set a n) h k :=
  x.store (by cases f <;> rfl) (x.ins.of (by cases f <;> rfl) (by cases f <;> rfl)) x.fh x.fk
theorem AskAt.setW (x : AskAt w q S a h k) (l : List UInt16) (A : Option Addr) (n c : Nat) (h1 : l.length = n) (h2 : n ≤ c) (h3 : c ≤ maxLen) (h4 : Lies u16v w A l) (h5 : ∀ b o s, A = some ⟨b, o, s⟩ → 0 < n → ¬ S b) :
    AskAt (w.setCell ⟨q, 4, none⟩ (.slice A n c)) q S { a with words := l } (A, n, c) k :=
  x.store rfl ⟨h1, h2, h3, h4, x.ins.kn, x.ins.kc, x.ins.km, x.ins.kl⟩ h5 x.fk
theorem AskAt.setB (x : AskAt w q S a h k) (l : List Bool) (A : Option Addr) (n c : Nat) (h1 : l.length = n) (h2 : n ≤ c) (h3 : c ≤ maxLen) (h4 : Lies bitv w A l) (h5 : ∀ b o s, A = some ⟨b, o, s⟩ → 0 < n → ¬ S b) :
    AskAt (w.setCell ⟨q, 5, none⟩ (.slice A n c)) q S { a with bits := l } h (A, n, c) :=
  x.store rfl ⟨x.ins.hn, x.ins.hc, x.ins.hm, x.ins.hl, h1, h2, h3, h4⟩ x.fh h5
end

/-- The parts of requests. -/
inductive PK
  | num (f : IF) (sz : Nat) (lo hi : Int)
  | mask (f : UF)
  | bit
  | word
  | bits (m : Nat)
  | words (m : Nat)
namespace PK
def fits (a : Ask) : PK → Bool
  | num f _ lo hi => decide (lo ≤ f.get a) && decide (f.get a ≤ hi)
  | mask _ => true
  | bit => a.bits.length == 1
  | word => a.words.length == 1
  | bits m => decide (1 ≤ a.bits.length) && decide (a.bits.length ≤ m)
  | words m => decide (1 ≤ a.words.length) && decide (a.words.length ≤ m)
def drop (a : Ask) : PK → Ask
  | num f _ _ _ => f.set a 0
  | mask f => f.set a 0
  | bit => { a with bits := [] }
  | word => { a with words := [] }
  | bits _ => { a with bits := [] }
  | words _ => { a with words := [] }
def out (a : Ask) : PK → List UInt8
  | num f sz _ _ => low (UInt16.ofNat (f.get a).toNat) sz
  | mask f => low (f.get a) 2
  | bit => low (if a.bits.getD 0 false then 65280 else 0) 2
  | word => low (a.words.getD 0 0) 2
  | bits _ => low (UInt16.ofNat a.bits.length) 2 ++ (low (UInt16.ofNat ((a.bits.length + 7) / 8)) 1 ++ Word.pack a.bits)
  | words _ => low (UInt16.ofNat a.words.length) 2 ++ (low (UInt16.ofNat (2 * a.words.length)) 1 ++ Word.bytes a.words)
def read (b : List UInt8) (a : Ask) : PK → Option (List UInt8 × Ask)
  | num f sz _ _ => if b.length < sz then none else some (b.drop sz, f.set a ((cutN b sz).toNat : Int))
  | mask f => if b.length < 2 then none else some (b.drop 2, f.set a (cutN b 2))
  | bit => if b.length < 2 then none else if cutN b 2 = 65280 then some (b.drop 2, { a with bits := [true] }) else if cutN b 2 = 0 then some (b.drop 2, { a with bits := [false] }) else none
  | word => if b.length < 2 then none else some (b.drop 2, { a with words := [cutN b 2] })
  | bits _ => if b.length < 2 then none else if (b.drop 2).length < 1 then none else if ((b.drop 2).drop 1).length < (cutN (b.drop 2) 1).toNat then none else
      if Word.isBitsI (((b.drop 2).drop 1).take (cutN (b.drop 2) 1).toNat) ((cutN b 2).toNat : Nat) then some (((b.drop 2).drop 1).drop (cutN (b.drop 2) 1).toNat, { a with bits := Word.bitsOf (((b.drop 2).drop 1).take (cutN (b.drop 2) 1).toNat) (cutN b 2).toNat }) else none
  | words _ => if b.length < 2 then none else if (b.drop 2).length < 1 then none else if ((b.drop 2).drop 1).length < (cutN (b.drop 2) 1).toNat then none else
      if Word.isWords (((b.drop 2).drop 1).take (cutN (b.drop 2) 1).toNat) && decide ((Word.words (((b.drop 2).drop 1).take (cutN (b.drop 2) 1).toNat)).length = (cutN b 2).toNat) then some (((b.drop 2).drop 1).drop (cutN (b.drop 2) 1).toNat, { a with words := Word.words (((b.drop 2).drop 1).take (cutN (b.drop 2) 1).toNat) }) else none
/-- Bounds that the program's parts keep. -/
def Fine : PK → Prop
  | num _ sz lo hi => (sz = 1 ∨ sz = 2) ∧ 0 ≤ lo ∧ hi ≤ 65535
  | bits m => m ≤ 1968
  | words m => m ≤ 123
  | _ => True
end PK

/-- What a function value that reads leaves. -/
def ReadPost (w0 W : World) (q : Nat) (S : Nat → Prop) (p : PK) (b : List UInt8) (a : Ask) (e : Ending) (w' : World) : Prop :=
  ∃ A' n' c' ok a' h' k', e = .returned (.tuple #[.slice A' n' c', .bool ok]) ∧ AskAt w' q S a' h' k' ∧ But [q] W w' ∧
    (match p.read b a with
     | none => ok = false
     | some (r, a2) => ok = true ∧ a' = a2 ∧ r.length = n' ∧ n' ≤ c' ∧ c' ≤ maxLen ∧ Lies u8v w0 A' r)
theorem ReadPost.no {w0 W w' : World} {q : Nat} {S : Nat → Prop} {p : PK} {b : List UInt8} {a a' : Ask} {h' k' : Option Addr × Nat × Nat} (A' : Option Addr) (n' c' : Nat) (hr : p.read b a = none) (hA : AskAt w' q S a' h' k') (hb : But [q] W w') : ReadPost w0 W q S p b a (.returned (.tuple #[.slice A' n' c', .bool false])) w' :=
  ⟨A', n', c', false, a', h', k', rfl, hA, hb, by rw [hr]⟩
theorem ReadPost.yes {w0 W w' : World} {q : Nat} {S : Nat → Prop} {p : PK} {b r : List UInt8} {a a' : Ask} {h' k' : Option Addr × Nat × Nat} {A' : Option Addr} {n' c' : Nat} (hr : p.read b a = some (r, a')) (hA : AskAt w' q S a' h' k') (hb : But [q] W w') (h1 : r.length = n') (h2 : n' ≤ c') (h3 : c' ≤ maxLen) (h4 : Lies u8v w0 A' r) : ReadPost w0 W q S p b a (.returned (.tuple #[.slice A' n' c', .bool true])) w' :=
  ⟨A', n', c', true, a', h', k', rfl, hA, hb, by rw [hr]; exact ⟨rfl, rfl, h1, h2, h3, h4⟩⟩

/-- What is asked of the four function values of a part, in every world in which what lay in w0 lies unturned. -/
structure PartOK (w0 : World) (p : PK) (g1 g2 g3 g4 : Nat) (l1 l2 l3 l4 : Array Value) : Prop where
  fine : p.Fine
  e1 : Enters Tryz.prog g1
  e2 : Enters Tryz.prog g2
  e3 : Enters Tryz.prog g3
  e4 : Enters Tryz.prog g4
  c1 : ∀ W, Below w0.heap.size w0 W → ∀ a h k, AskIn W a h k → Calls Tryz.prog g1 (#[askV a h k] ++ l1) W fun e w' => e = .returned (.bool (p.fits a)) ∧ Below W.heap.size W w'
  c2 : ∀ Wa W, Below w0.heap.size w0 Wa → Below Wa.heap.size Wa W → ∀ a h k, AskIn Wa a h k → p.fits a = true → ∀ (B : Nat) (v : Value) (n : Nat) (xs : List UInt8), W.ownsRow B 5 1 v n (xs.map u8v) → Wa.heap.size ≤ B → B ≤ W.heap.size → n ≤ 10000 →
    Calls Tryz.prog g2 (#[v, askV a h k] ++ l2) W fun e w' => ∃ A m c, e = .returned (.slice A m c) ∧ w'.ownsRow B 5 1 (.slice A m c) m ((xs ++ p.out a).map u8v) ∧ Below B W w'
  c3 : ∀ W, Below w0.heap.size w0 W → ∀ (A : Option Addr) (n c : Nat) (b : List UInt8), b.length = n → n ≤ c → c ≤ maxLen → n ≤ 10000 → Lies u8v w0 A b → ∀ q S a h k, w0.heap.size ≤ q → AskAt W q S a h k →
    Calls Tryz.prog g3 (#[.slice A n c, .pointer (some ⟨q, 0, none⟩)] ++ l3) W (ReadPost w0 W q S p b a)
  c4 : ∀ W, Below w0.heap.size w0 W → ∀ q S a h k, w0.heap.size ≤ q → AskAt W q S a h k →
    Calls Tryz.prog g4 (#[.pointer (some ⟨q, 0, none⟩)] ++ l4) W fun e w' => (∃ v, e = .returned v) ∧ ∃ h' k', AskAt w' q S (p.drop a) h' k' ∧ But [q] W w'
end Go.Proofs.YtcbkbdoaaaofjaaGreat

/-
  The landed ask: the function values of parts that are numbers.
-/
namespace Go.Proofs.YtcbkbdoaaaofjaaGreat
open Go.RowKit Go.Shelf


set_option maxRecDepth 100000 in
set_option maxHeartbeats 400000 in
theorem numILay (f : IF) (gof : Nat) (O : OfOK gof f.ix) (b0 b1 sz : Nat) (hs : sz = 1 ∨ sz = 2) (W : World) (c0 : W.cell? ⟨b0, 0, none⟩ = some (.func (.func gof) #[] #[])) (c1 : W.cell? ⟨b1, 0, none⟩ = some (.int .i64 (sz : Int))) (a : Ask) (h k : Option Addr × Nat × Nat) (x : UInt16) (hx : f.get a = (x.toNat : Int))
    (B : Nat) (v : Value) (n : Nat) (xs : List UInt8) (hown : W.ownsRow B 5 1 v n (xs.map u8v)) (hB : B ≤ W.heap.size) (hB0 : b0 < B) (hB1 : b1 < B) (hn : n ≤ 20000) :
    Calls Tryz.prog 120 #[v, askV a h k, .pointer (some ⟨b0, 0, none⟩), .pointer (some ⟨b1, 0, none⟩)] W fun e w' => ∃ A c, e = .returned (.slice A (n + sz) c) ∧ w'.ownsRow B 5 1 (.slice A (n + sz) c) (n + sz) ((xs ++ low x sz).map u8v) ∧ Below B W w' := by
  have eg := O.en
  have hO := O.ca
  have hc := box_cell W (askCells a h k) 26 _ _ (IF.cell f a h k)
  rw [hx] at hc
  unfold askCells at hc
  have l0 := World.block_lt_of_cell? _ _ c0
  have l1 := World.block_lt_of_cell? _ _ c1
  have hb1 : Below W.heap.size W (W.alloc (.cells #[.int .i64 a.code, .int .i64 a.addr, .int .i64 a.count, .int .i64 a.to, .slice h.1 h.2.1 h.2.2, .slice k.1 k.2.1 k.2.2, u16v a.and_, u16v a.or_] 26)) := (Below.refl _ _).alloc (Nat.le_refl _) _
  have d0 := (hb1.cell (p := ⟨b0, 0, none⟩) l0).trans c0
  have d1 := (hb1.cell (p := ⟨b1, 0, none⟩) l1).trans c1
  have HN : Hid (v.ownBlock ≠ some b0 ∧ v.ownBlock ≠ some b1 ∧ v.ownBlock ≠ some W.heap.size) := Lib.hid ⟨fun e => absurd (hown.lt _ e).1 (by omega), fun e => absurd (hown.lt _ e).1 (by omega), fun e => absurd (hown.lt _ e).2 (by omega)⟩
  have HP := Lib.hid (fun V (ho : World.ownsRow V B 5 1 v n (xs.map u8v)) (hz : B ≤ V.heap.size) => put6_any x sz hs B v n xs V ho hz (by omega))
  have hown1 := hown.alloc (.cells #[.int .i64 a.code, .int .i64 a.addr, .int .i64 a.count, .int .i64 a.to, .slice h.1 h.2.1 h.2.2, .slice k.1 k.2.1 k.2.2, u16v a.and_, u16v a.or_] 26)
  have hown1d : ((W.alloc (.cells #[.int .i64 a.code, .int .i64 a.addr, .int .i64 a.count, .int .i64 a.to, .slice h.1 h.2.1 h.2.2, .slice k.1 k.2.1 k.2.2, u16v a.and_, u16v a.or_] 26)).drew).ownsRow B 5 1 v n (xs.map u8v) := hown1
  have HZ : Hid (B ≤ ((W.alloc (.cells #[.int .i64 a.code, .int .i64 a.addr, .int .i64 a.count, .int .i64 a.to, .slice h.1 h.2.1 h.2.2, .slice k.1 k.2.1 k.2.2, u16v a.and_, u16v a.or_] 26)).drew).heap.size) := Lib.hid (Nat.le_trans hB hb1.size)
  have HB : Hid (Below B W ((W.alloc (.cells #[.int .i64 a.code, .int .i64 a.addr, .int .i64 a.count, .int .i64 a.to, .slice h.1 h.2.1 h.2.2, .slice k.1 k.2.1 k.2.2, u16v a.and_, u16v a.or_] 26)).drew)) := Lib.hid (drewN_below (hb1.mono hB) 1)
  have hxl := x.toNat_lt
  have e0 : ((W.alloc (.cells #[.int .i64 a.code, .int .i64 a.addr, .int .i64 a.count, .int .i64 a.to, .slice h.1 h.2.1 h.2.2, .slice k.1 k.2.1 k.2.2, u16v a.and_, u16v a.or_] 26)).drew).cell? ⟨b0, 0, none⟩ = some (.func (.func gof) #[] #[]) := d0
  have e1 : ((W.alloc (.cells #[.int .i64 a.code, .int .i64 a.addr, .int .i64 a.count, .int .i64 a.to, .slice h.1 h.2.1 h.2.2, .slice k.1 k.2.1 k.2.2, u16v a.and_, u16v a.or_] 26)).drew).cell? ⟨b1, 0, none⟩ = some (.int .i64 (sz : Int)) := d1
  have e2 : ((W.alloc (.cells #[.int .i64 a.code, .int .i64 a.addr, .int .i64 a.count, .int .i64 a.to, .slice h.1 h.2.1 h.2.2, .slice k.1 k.2.1 k.2.2, u16v a.and_, u16v a.or_] 26)).drew).cell? ⟨W.heap.size, f.ix, none⟩ = some (.int .i64 (x.toNat : Int)) := hc
  have i6 : IntKind.i64.wrap (x.toNat : Int) = (x.toNat : Int) := by rw [IntKind.wrap_i64]; omega
  generalize f.ix = i at *
  clear hown hown1 hx hb1
  unfold Enters at eg
  rw [askV_eq]
  go_enter Tryz.func120, Tryz.ntmps120
  go_wp2_with fail
  go_region_held3 (fun V => V.cell? ⟨b0, 0, none⟩ = some (.func (.func gof) #[] #[]) ∧ V.cell? ⟨b1, 0, none⟩ = some (.int .i64 (sz : Int)) ∧ V.cell? ⟨W.heap.size, i, none⟩ = some (.int .i64 (x.toNat : Int))) (first | with_reducible assumption | exact ⟨e0, e1, e2⟩ | with_reducible exact ⟨f0, f1, f2⟩ | fail) (first | (go_at_fn gof; (with_reducible refine (hO _ _).mono ?_); rintro e w' ⟨rfl, rfl⟩) | (go_at_call 88; (with_reducible refine (HP.out _ hown1d HZ.out).mono ?_); rintro e w' ⟨A2, c2, rfl, hk1, hk2, hk3, hk4⟩; have f0 := grown_cell hk3 e0 HN.out.1; have f1 := grown_cell hk3 e1 HN.out.2.1; have f2 := grown_cell hk3 e2 HN.out.2.2) | fail)
  go_wp2_with fail
  go_ret
  exact ⟨A2, c2, rfl, hk1, HB.out.trans hk2⟩

set_option maxRecDepth 100000 in
set_option maxHeartbeats 400000 in
theorem numIDrop (f : IF) (gof : Nat) (O : OfOK gof f.ix) (b0 : Nat) (W : World) (c0 : W.cell? ⟨b0, 0, none⟩ = some (.func (.func gof) #[] #[])) (q : Nat) {S : Nat → Prop} (a : Ask) (h k : Option Addr × Nat × Nat) (x : AskAt W q S a h k) :
    Calls Tryz.prog 122 #[.pointer (some ⟨q, 0, none⟩), .pointer (some ⟨b0, 0, none⟩)] W fun e w' => (∃ v, e = .returned v) ∧ AskAt w' q S (f.set a 0) h k ∧ But [q] W w' := by
  have eg := O.en
  have hO := O.ca
  have hc := x.cell (IF.cell f a h k)
  have hf := x.free f.ix
  have HS := Lib.hid (x.setI f 0)
  have HB := Lib.hid (But.one W q f.ix (.int .i64 0))
  unfold u16v at *
  generalize f.ix = i at *
  unfold Enters at eg
  go_enter Tryz.func122, Tryz.ntmps122
  go_wp2_with (go_at_fn gof; refine (hO _ _).mono ?_; rintro e w' ⟨rfl, rfl⟩)
  refine bodyPost_end (results_none rfl _ _ _) rfl ?_
  exact ⟨⟨_, rfl⟩, HS.out, HB.out⟩

set_option maxRecDepth 100000 in
set_option maxHeartbeats 400000 in
theorem numIRead (f : IF) (gof : Nat) (O : OfOK gof f.ix) (b0 b1 : Nat) (sz : Nat) (hs : sz = 1 ∨ sz = 2) (lo hi : Int) (w0 W : World) (c0 : W.cell? ⟨b0, 0, none⟩ = some (.func (.func gof) #[] #[])) (c1 : W.cell? ⟨b1, 0, none⟩ = some (.int .i64 (sz : Int))) (hw : Below w0.heap.size w0 W) (A : Option Addr) (n c : Nat) (b : List UInt8) (hn : b.length = n) (hnc : n ≤ c) (hcm : c ≤ maxLen) (hm : n ≤ 10000) (hb : Lies u8v w0 A b) (q : Nat) {S : Nat → Prop} (a : Ask) (h k : Option Addr × Nat × Nat) (x : AskAt W q S a h k) :
    Calls Tryz.prog 121 #[.slice A n c, .pointer (some ⟨q, 0, none⟩), .pointer (some ⟨b1, 0, none⟩), .pointer (some ⟨b0, 0, none⟩)] W (ReadPost w0 W q S (.num f sz lo hi) b a) := by
  have eg := O.en
  have hO := O.ca
  have hC := cut6_any A n c sz hs b hn hnc hcm (by omega) W (hb.below hw (Nat.le_refl _))
  unfold Enters at eg
  by_cases hlt : n < sz
  · have HC : Hid (Calls Tryz.prog 90 #[.slice A n c, .int .i64 (sz : Int)] W fun e w' => e = .returned (.tuple #[.int .i64 0, .slice none 0 0, .bool false]) ∧ Below W.heap.size W w') := Lib.hid (hC.mono fun e w' hh => by
      unfold CutPost at hh
      rw [if_pos hlt] at hh
      exact ⟨hh.2, hh.1⟩)
    have HR : Hid (PK.read b a (.num f sz lo hi) = none) := Lib.hid (by unfold PK.read; dsimp only; rw [if_pos (by omega)])
    clear hC hn
    go_enter Tryz.func121, Tryz.ntmps121
    go_wp2_with fail
    refine HC.out.mono ?_
    rintro e w1 ⟨rfl, hb1⟩
    have x1 := x.below hb1
    have d0 := (hb1.cell (p := ⟨b0, 0, none⟩) (World.block_lt_of_cell? _ _ c0)).trans c0
    have hc := x1.cell (IF.cell f a h k)
    have hf := x1.free f.ix
    have HS := Lib.hid (x1.setI f 0)
    have HB := Lib.hid ((But.of_below hb1 (Nat.le_refl _) [q]).trans (But.one w1 q f.ix (.int .i64 0)))
    unfold u16v at *
    generalize f.ix = i at *
    go_wp2_with (go_at_fn gof; refine (hO _ _).mono ?_; rintro e w' ⟨rfl, rfl⟩)
    go_ret2
    exact ReadPost.no _ _ _ HR.out HS.out HB.out
  · have HC : Hid (Calls Tryz.prog 90 #[.slice A n c, .int .i64 (sz : Int)] W fun e w' => (∃ A' m c', e = .returned (.tuple #[.int .i64 ((cutN b sz).toNat : Int), .slice A' m c', .bool true]) ∧ (b.drop sz).length = m ∧ m ≤ c' ∧ c' ≤ maxLen ∧ Lies u8v w0 A' (b.drop sz)) ∧ Below W.heap.size W w') := Lib.hid (hC.mono fun e w' hh => by
      unfold CutPost at hh
      rw [if_neg hlt] at hh
      obtain ⟨h1, A', m, c', h2, h3, h4, h5, h6⟩ := hh
      exact ⟨⟨A', m, c', h2, h3, h4, h5, h6 _ hb⟩, h1⟩)
    have HR : Hid (PK.read b a (.num f sz lo hi) = some (b.drop sz, f.set a ((cutN b sz).toNat : Int))) := Lib.hid (by unfold PK.read; dsimp only; rw [if_neg (by omega)])
    have hv := (cutN b sz).toNat_lt
    clear hC hn
    go_enter Tryz.func121, Tryz.ntmps121
    go_wp2_with fail
    refine HC.out.mono ?_
    rintro e w1 ⟨⟨A', m, c', rfl, k1, k2, k3, k4⟩, hb1⟩
    have x1 := x.below hb1
    have d0 := (hb1.cell (p := ⟨b0, 0, none⟩) (World.block_lt_of_cell? _ _ c0)).trans c0
    have hc := x1.cell (IF.cell f a h k)
    have hf := x1.free f.ix
    have HS := Lib.hid (x1.setI f ((cutN b sz).toNat : Int))
    have HB := Lib.hid ((But.of_below hb1 (Nat.le_refl _) [q]).trans (But.one w1 q f.ix (.int .i64 ((cutN b sz).toNat : Int))))
    unfold u16v at *
    generalize f.ix = i at *
    generalize hV : cutN b sz = V at *
    have i5 : (V.toNat : Int) % 65536 = (V.toNat : Int) := by omega
    go_wp2_with (go_at_fn gof; refine (hO _ _).mono ?_; rintro e w' ⟨rfl, rfl⟩)
    go_ret2
    exact ReadPost.yes HR.out HS.out HB.out k1 k2 k3 k4

set_option maxRecDepth 100000 in
set_option maxHeartbeats 400000 in
theorem numULay (f : UF) (gof : Nat) (O : OfOK gof f.ix) (b0 b1 sz : Nat) (hs : sz = 1 ∨ sz = 2) (W : World) (c0 : W.cell? ⟨b0, 0, none⟩ = some (.func (.func gof) #[] #[])) (c1 : W.cell? ⟨b1, 0, none⟩ = some (.int .i64 (sz : Int))) (a : Ask) (h k : Option Addr × Nat × Nat) (x : UInt16) (hx : f.get a = x)
    (B : Nat) (v : Value) (n : Nat) (xs : List UInt8) (hown : W.ownsRow B 5 1 v n (xs.map u8v)) (hB : B ≤ W.heap.size) (hB0 : b0 < B) (hB1 : b1 < B) (hn : n ≤ 20000) :
    Calls Tryz.prog 131 #[v, askV a h k, .pointer (some ⟨b0, 0, none⟩), .pointer (some ⟨b1, 0, none⟩)] W fun e w' => ∃ A c, e = .returned (.slice A (n + sz) c) ∧ w'.ownsRow B 5 1 (.slice A (n + sz) c) (n + sz) ((xs ++ low x sz).map u8v) ∧ Below B W w' := by
  have eg := O.en
  have hO := O.ca
  have hc := box_cell W (askCells a h k) 26 _ _ (UF.cell f a h k)
  rw [hx] at hc
  unfold u16v at hc
  unfold askCells at hc
  have l0 := World.block_lt_of_cell? _ _ c0
  have l1 := World.block_lt_of_cell? _ _ c1
  have hb1 : Below W.heap.size W (W.alloc (.cells #[.int .i64 a.code, .int .i64 a.addr, .int .i64 a.count, .int .i64 a.to, .slice h.1 h.2.1 h.2.2, .slice k.1 k.2.1 k.2.2, u16v a.and_, u16v a.or_] 26)) := (Below.refl _ _).alloc (Nat.le_refl _) _
  have d0 := (hb1.cell (p := ⟨b0, 0, none⟩) l0).trans c0
  have d1 := (hb1.cell (p := ⟨b1, 0, none⟩) l1).trans c1
  have HN : Hid (v.ownBlock ≠ some b0 ∧ v.ownBlock ≠ some b1 ∧ v.ownBlock ≠ some W.heap.size) := Lib.hid ⟨fun e => absurd (hown.lt _ e).1 (by omega), fun e => absurd (hown.lt _ e).1 (by omega), fun e => absurd (hown.lt _ e).2 (by omega)⟩
  have HP := Lib.hid (fun V (ho : World.ownsRow V B 5 1 v n (xs.map u8v)) (hz : B ≤ V.heap.size) => put6_any x sz hs B v n xs V ho hz (by omega))
  have hown1 := hown.alloc (.cells #[.int .i64 a.code, .int .i64 a.addr, .int .i64 a.count, .int .i64 a.to, .slice h.1 h.2.1 h.2.2, .slice k.1 k.2.1 k.2.2, u16v a.and_, u16v a.or_] 26)
  have hown1d : ((W.alloc (.cells #[.int .i64 a.code, .int .i64 a.addr, .int .i64 a.count, .int .i64 a.to, .slice h.1 h.2.1 h.2.2, .slice k.1 k.2.1 k.2.2, u16v a.and_, u16v a.or_] 26)).drew).ownsRow B 5 1 v n (xs.map u8v) := hown1
  have HZ : Hid (B ≤ ((W.alloc (.cells #[.int .i64 a.code, .int .i64 a.addr, .int .i64 a.count, .int .i64 a.to, .slice h.1 h.2.1 h.2.2, .slice k.1 k.2.1 k.2.2, u16v a.and_, u16v a.or_] 26)).drew).heap.size) := Lib.hid (Nat.le_trans hB hb1.size)
  have HB : Hid (Below B W ((W.alloc (.cells #[.int .i64 a.code, .int .i64 a.addr, .int .i64 a.count, .int .i64 a.to, .slice h.1 h.2.1 h.2.2, .slice k.1 k.2.1 k.2.2, u16v a.and_, u16v a.or_] 26)).drew)) := Lib.hid (drewN_below (hb1.mono hB) 1)
  have hxl := x.toNat_lt
  have e0 : ((W.alloc (.cells #[.int .i64 a.code, .int .i64 a.addr, .int .i64 a.count, .int .i64 a.to, .slice h.1 h.2.1 h.2.2, .slice k.1 k.2.1 k.2.2, u16v a.and_, u16v a.or_] 26)).drew).cell? ⟨b0, 0, none⟩ = some (.func (.func gof) #[] #[]) := d0
  have e1 : ((W.alloc (.cells #[.int .i64 a.code, .int .i64 a.addr, .int .i64 a.count, .int .i64 a.to, .slice h.1 h.2.1 h.2.2, .slice k.1 k.2.1 k.2.2, u16v a.and_, u16v a.or_] 26)).drew).cell? ⟨b1, 0, none⟩ = some (.int .i64 (sz : Int)) := d1
  have e2 : ((W.alloc (.cells #[.int .i64 a.code, .int .i64 a.addr, .int .i64 a.count, .int .i64 a.to, .slice h.1 h.2.1 h.2.2, .slice k.1 k.2.1 k.2.2, u16v a.and_, u16v a.or_] 26)).drew).cell? ⟨W.heap.size, f.ix, none⟩ = some (.int .u16 (x.toNat : Int)) := hc
  have i6 : IntKind.i64.wrap (x.toNat : Int) = (x.toNat : Int) := by rw [IntKind.wrap_i64]; omega
  generalize f.ix = i at *
  clear hown hown1 hx hb1
  unfold Enters at eg
  rw [askV_eq]
  go_enter Tryz.func131, Tryz.ntmps131
  go_wp2_with fail
  go_region_held3 (fun V => V.cell? ⟨b0, 0, none⟩ = some (.func (.func gof) #[] #[]) ∧ V.cell? ⟨b1, 0, none⟩ = some (.int .i64 (sz : Int)) ∧ V.cell? ⟨W.heap.size, i, none⟩ = some (.int .u16 (x.toNat : Int))) (first | with_reducible assumption | exact ⟨e0, e1, e2⟩ | with_reducible exact ⟨f0, f1, f2⟩ | fail) (first | (go_at_fn gof; (with_reducible refine (hO _ _).mono ?_); rintro e w' ⟨rfl, rfl⟩) | (go_at_call 88; (with_reducible refine (HP.out _ hown1d HZ.out).mono ?_); rintro e w' ⟨A2, c2, rfl, hk1, hk2, hk3, hk4⟩; have f0 := grown_cell hk3 e0 HN.out.1; have f1 := grown_cell hk3 e1 HN.out.2.1; have f2 := grown_cell hk3 e2 HN.out.2.2) | fail)
  go_wp2_with fail
  go_ret
  exact ⟨A2, c2, rfl, hk1, HB.out.trans hk2⟩

set_option maxRecDepth 100000 in
set_option maxHeartbeats 400000 in
theorem numUDrop (f : UF) (gof : Nat) (O : OfOK gof f.ix) (b0 : Nat) (W : World) (c0 : W.cell? ⟨b0, 0, none⟩ = some (.func (.func gof) #[] #[])) (q : Nat) {S : Nat → Prop} (a : Ask) (h k : Option Addr × Nat × Nat) (x : AskAt W q S a h k) :
    Calls Tryz.prog 133 #[.pointer (some ⟨q, 0, none⟩), .pointer (some ⟨b0, 0, none⟩)] W fun e w' => (∃ v, e = .returned v) ∧ AskAt w' q S (f.set a 0) h k ∧ But [q] W w' := by
  have eg := O.en
  have hO := O.ca
  have hc := x.cell (UF.cell f a h k)
  have hf := x.free f.ix
  have HS := Lib.hid (x.setU f 0)
  have HB := Lib.hid (But.one W q f.ix (.int .u16 0))
  unfold u16v at *
  generalize f.ix = i at *
  unfold Enters at eg
  go_enter Tryz.func133, Tryz.ntmps133
  go_wp2_with (go_at_fn gof; refine (hO _ _).mono ?_; rintro e w' ⟨rfl, rfl⟩)
  refine bodyPost_end (results_none rfl _ _ _) rfl ?_
  exact ⟨⟨_, rfl⟩, HS.out, HB.out⟩

set_option maxRecDepth 100000 in
set_option maxHeartbeats 400000 in
theorem numURead (f : UF) (gof : Nat) (O : OfOK gof f.ix) (b0 b1 : Nat) (w0 W : World) (c0 : W.cell? ⟨b0, 0, none⟩ = some (.func (.func gof) #[] #[])) (c1 : W.cell? ⟨b1, 0, none⟩ = some (.int .i64 2)) (hw : Below w0.heap.size w0 W) (A : Option Addr) (n c : Nat) (b : List UInt8) (hn : b.length = n) (hnc : n ≤ c) (hcm : c ≤ maxLen) (hm : n ≤ 10000) (hb : Lies u8v w0 A b) (q : Nat) {S : Nat → Prop} (a : Ask) (h k : Option Addr × Nat × Nat) (x : AskAt W q S a h k) :
    Calls Tryz.prog 132 #[.slice A n c, .pointer (some ⟨q, 0, none⟩), .pointer (some ⟨b1, 0, none⟩), .pointer (some ⟨b0, 0, none⟩)] W (ReadPost w0 W q S (.mask f) b a) := by
  have eg := O.en
  have hO := O.ca
  have hC := cut6_any A n c 2 (.inr rfl) b hn hnc hcm (by omega) W (hb.below hw (Nat.le_refl _))
  unfold Enters at eg
  by_cases hlt : n < 2
  · have HC : Hid (Calls Tryz.prog 90 #[.slice A n c, .int .i64 2] W fun e w' => e = .returned (.tuple #[.int .i64 0, .slice none 0 0, .bool false]) ∧ Below W.heap.size W w') := Lib.hid (hC.mono fun e w' hh => by
      unfold CutPost at hh
      rw [if_pos hlt] at hh
      exact ⟨hh.2, hh.1⟩)
    have HR : Hid (PK.read b a (.mask f) = none) := Lib.hid (by unfold PK.read; dsimp only; rw [if_pos (by omega)])
    clear hC hn
    go_enter Tryz.func132, Tryz.ntmps132
    go_wp2_with fail
    refine HC.out.mono ?_
    rintro e w1 ⟨rfl, hb1⟩
    have x1 := x.below hb1
    have d0 := (hb1.cell (p := ⟨b0, 0, none⟩) (World.block_lt_of_cell? _ _ c0)).trans c0
    have hc := x1.cell (UF.cell f a h k)
    have hf := x1.free f.ix
    have HS := Lib.hid (x1.setU f 0)
    have HB := Lib.hid ((But.of_below hb1 (Nat.le_refl _) [q]).trans (But.one w1 q f.ix (.int .u16 0)))
    unfold u16v at *
    generalize f.ix = i at *
    go_wp2_with (go_at_fn gof; refine (hO _ _).mono ?_; rintro e w' ⟨rfl, rfl⟩)
    go_ret2
    exact ReadPost.no _ _ _ HR.out HS.out HB.out
  · have HC : Hid (Calls Tryz.prog 90 #[.slice A n c, .int .i64 2] W fun e w' => (∃ A' m c', e = .returned (.tuple #[.int .i64 ((cutN b 2).toNat : Int), .slice A' m c', .bool true]) ∧ (b.drop 2).length = m ∧ m ≤ c' ∧ c' ≤ maxLen ∧ Lies u8v w0 A' (b.drop 2)) ∧ Below W.heap.size W w') := Lib.hid (hC.mono fun e w' hh => by
      unfold CutPost at hh
      rw [if_neg hlt] at hh
      obtain ⟨h1, A', m, c', h2, h3, h4, h5, h6⟩ := hh
      exact ⟨⟨A', m, c', h2, h3, h4, h5, h6 _ hb⟩, h1⟩)
    have HR : Hid (PK.read b a (.mask f) = some (b.drop 2, f.set a (cutN b 2))) := Lib.hid (by unfold PK.read; dsimp only; rw [if_neg (by omega)])
    have hv := (cutN b 2).toNat_lt
    clear hC hn
    go_enter Tryz.func132, Tryz.ntmps132
    go_wp2_with fail
    refine HC.out.mono ?_
    rintro e w1 ⟨⟨A', m, c', rfl, k1, k2, k3, k4⟩, hb1⟩
    have x1 := x.below hb1
    have d0 := (hb1.cell (p := ⟨b0, 0, none⟩) (World.block_lt_of_cell? _ _ c0)).trans c0
    have hc := x1.cell (UF.cell f a h k)
    have hf := x1.free f.ix
    have HS := Lib.hid (x1.setU f (cutN b 2))
    have HB := Lib.hid ((But.of_below hb1 (Nat.le_refl _) [q]).trans (But.one w1 q f.ix (.int .u16 ((cutN b 2).toNat : Int))))
    unfold u16v at *
    generalize f.ix = i at *
    generalize hV : cutN b 2 = V at *
    have i5 : (V.toNat : Int) % 65536 = (V.toNat : Int) := by omega
    go_wp2_with (go_at_fn gof; refine (hO _ _).mono ?_; rintro e w' ⟨rfl, rfl⟩)
    go_ret2
    exact ReadPost.yes HR.out HS.out HB.out k1 k2 k3 k4
end Go.Proofs.YtcbkbdoaaaofjaaGreat

/-
  The landed ask: the function values of parts that are a list of one.
-/
namespace Go.Proofs.YtcbkbdoaaaofjaaGreat
open Go.RowKit Go.Shelf

theorem alloc_set (w : World) (o : Obj) (q i : Nat) (v : Value) (h : q < w.heap.size) : (w.alloc o).setCell ⟨q, i, none⟩ v = (w.setCell ⟨q, i, none⟩ v).alloc o := by
  unfold World.alloc World.setCell
  simp only [World.mk.injEq, and_true]
  apply Array.ext_getElem?
  intro j
  simp only [Array.getElem?_modify, Array.getElem?_push, Array.size_modify]
  by_cases h1 : q = j
  · subst h1
    rw [if_pos rfl, if_neg (by omega), if_neg (by omega), if_pos rfl]
  · rw [if_neg h1, if_neg h1]
def bitN (y : Bool) : UInt16 := if y then 65280 else 0
theorem putBit6 (y : Bool) (W : World) : Calls Tryz.prog 49 #[bitv y] W fun e w' => e = .returned (.int .i64 ((bitN y).toNat : Int)) ∧ w' = W := by
  have := putBit_any y W
  cases y <;> exact this
theorem getBit6 (V : UInt16) (W : World) : Calls Tryz.prog 50 #[.int .i64 (V.toNat : Int)] W fun e w' => e = .returned (.tuple #[bitv (V == 65280), .bool (V == 65280 || V == 0)]) ∧ w' = W := by
  have h1 : ((V.toNat : Int) == 65280) = (V == 65280) := by
    rw [Bool.eq_iff_iff, beq_iff_eq, beq_iff_eq]
    constructor
    · intro h; exact UInt16.toNat_inj.1 (by show V.toNat = 65280; omega)
    · rintro rfl; rfl
  have h2 : ((V.toNat : Int) == 0) = (V == 0) := by
    rw [Bool.eq_iff_iff, beq_iff_eq, beq_iff_eq]
    constructor
    · intro h; exact UInt16.toNat_inj.1 (by show V.toNat = 0; omega)
    · rintro rfl; rfl
  have := getBit_any (V.toNat : Int) W
  rw [h1, h2] at this
  exact this
theorem getWord6 (V : UInt16) (W : World) : Calls Tryz.prog 55 #[.int .i64 (V.toNat : Int)] W fun e w' => e = .returned (.tuple #[u16v V, .bool true]) ∧ w' = W := getWord_any V.toNat V.toNat_lt W

set_option maxRecDepth 100000 in
set_option maxHeartbeats 400000 in
theorem siBFits (b0 : Nat) (W : World) (c0 : W.cell? ⟨b0, 0, none⟩ = some (.func (.func 48) #[] #[])) (a : Ask) (h k : Option Addr × Nat × Nat) (ha : AskIn W a h k) :
    Calls Tryz.prog 86 #[askV a h k, .pointer (some ⟨b0, 0, none⟩)] W fun e w' => e = .returned (.bool (a.bits.length == 1)) ∧ Below W.heap.size W w' := by
  have hO := bitsOf_ok.ca
  have hc := box_cell W (askCells a h k) 26 5 (.slice k.1 k.2.1 k.2.2) rfl
  have l0 := World.block_lt_of_cell? _ _ c0
  have HN := Lib.hid ha.kn
  unfold askCells at hc
  rw [askV_eq]
  obtain ⟨e1, e2, e3⟩ := k
  dsimp only at *
  clear ha
  by_cases g : e2 = 1
  · subst g
    go_enter Tryz.func86, Tryz.ntmps86
    go_wp2_with (go_at_call 48; refine (hO _ _).mono ?_; rintro e w' ⟨rfl, rfl⟩)
    go_ret
    exact ⟨by rw [HN.out]; rfl, (Below.refl _ _).alloc (Nat.le_refl _) _⟩
  · have g' : ((e2 : Int) == 1) = false := by rw [beq_eq_false_iff_ne]; omega
    go_enter Tryz.func86, Tryz.ntmps86
    go_wp2_with (go_at_call 48; refine (hO _ _).mono ?_; rintro e w' ⟨rfl, rfl⟩)
    go_ret
    exact ⟨by rw [HN.out, beq_eq_false_iff_ne.2 g]; first | rfl | simp [g'], (Below.refl _ _).alloc (Nat.le_refl _) _⟩

set_option maxRecDepth 100000 in
set_option maxHeartbeats 400000 in
theorem siBLay (b0 b1 : Nat) (Wa W : World) (c0 : W.cell? ⟨b0, 0, none⟩ = some (.func (.func 48) #[] #[])) (c1 : W.cell? ⟨b1, 0, none⟩ = some (.func (.func 49) #[] #[])) (a : Ask) (h k : Option Addr × Nat × Nat) (hWa : Below Wa.heap.size Wa W) (ha : AskIn Wa a h k) (y : Bool) (hy : a.bits = [y])
    (B : Nat) (v : Value) (n : Nat) (xs : List UInt8) (hown : W.ownsRow B 5 1 v n (xs.map u8v)) (hB : B ≤ W.heap.size) (hWB : Wa.heap.size ≤ B) (hB0 : b0 < B) (hB1 : b1 < B) (hn : n ≤ 20000) :
    Calls Tryz.prog 87 #[v, askV a h k, .pointer (some ⟨b1, 0, none⟩), .pointer (some ⟨b0, 0, none⟩)] W fun e w' => ∃ A c, e = .returned (.slice A (n + 2) c) ∧ w'.ownsRow B 5 1 (.slice A (n + 2) c) (n + 2) ((xs ++ low (bitN y) 2).map u8v) ∧ Below B W w' := by
  have h1 : k.2.1 = 1 := by rw [← ha.kn, hy]; rfl
  obtain ⟨eb, eo, eA, hel0⟩ := ha.kl 0 (by rw [hy]; simp)
  obtain ⟨e1, e2, e3⟩ := k
  obtain rfl : e2 = 1 := h1
  obtain rfl : e1 = some ⟨eb, eo, none⟩ := eA
  have hO := bitsOf_ok.ca
  have hP := fun W => putBit6 y W
  have hc := box_cell W #[.int .i64 a.code, .int .i64 a.addr, .int .i64 a.count, .int .i64 a.to, .slice h.1 h.2.1 h.2.2, .slice (some ⟨eb, eo, none⟩) 1 e3, u16v a.and_, u16v a.or_] 26 5 (.slice (some ⟨eb, eo, none⟩) 1 e3) rfl
  have hel : W.cell? ⟨eb, eo, none⟩ = some (bitv y) := by
    have := (hWa.cell (p := ⟨eb, eo + 0, none⟩) (World.block_lt_of_cell? _ _ hel0)).trans hel0
    simpa [hy] using this
  have hebl : eb < Wa.heap.size := World.block_lt_of_cell? _ _ hel0
  have l0 := World.block_lt_of_cell? _ _ c0
  have l1 := World.block_lt_of_cell? _ _ c1
  have l2 : eb < W.heap.size := World.block_lt_of_cell? _ _ hel
  have hb1 : Below W.heap.size W (W.alloc (.cells #[.int .i64 a.code, .int .i64 a.addr, .int .i64 a.count, .int .i64 a.to, .slice h.1 h.2.1 h.2.2, .slice (some ⟨eb, eo, none⟩) 1 e3, u16v a.and_, u16v a.or_] 26)) := (Below.refl _ _).alloc (Nat.le_refl _) _
  have d0 : (W.alloc (.cells #[.int .i64 a.code, .int .i64 a.addr, .int .i64 a.count, .int .i64 a.to, .slice h.1 h.2.1 h.2.2, .slice (some ⟨eb, eo, none⟩) 1 e3, u16v a.and_, u16v a.or_] 26)).drew.cell? ⟨b0, 0, none⟩ = some (.func (.func 48) #[] #[]) := (hb1.cell (p := ⟨b0, 0, none⟩) l0).trans c0
  have d1 : (W.alloc (.cells #[.int .i64 a.code, .int .i64 a.addr, .int .i64 a.count, .int .i64 a.to, .slice h.1 h.2.1 h.2.2, .slice (some ⟨eb, eo, none⟩) 1 e3, u16v a.and_, u16v a.or_] 26)).drew.cell? ⟨b1, 0, none⟩ = some (.func (.func 49) #[] #[]) := (hb1.cell (p := ⟨b1, 0, none⟩) l1).trans c1
  have d2 : (W.alloc (.cells #[.int .i64 a.code, .int .i64 a.addr, .int .i64 a.count, .int .i64 a.to, .slice h.1 h.2.1 h.2.2, .slice (some ⟨eb, eo, none⟩) 1 e3, u16v a.and_, u16v a.or_] 26)).drew.cell? ⟨W.heap.size, 5, none⟩ = some (.slice (some ⟨eb, eo, none⟩) 1 e3) := hc
  have d3 : (W.alloc (.cells #[.int .i64 a.code, .int .i64 a.addr, .int .i64 a.count, .int .i64 a.to, .slice h.1 h.2.1 h.2.2, .slice (some ⟨eb, eo, none⟩) 1 e3, u16v a.and_, u16v a.or_] 26)).drew.cell? ⟨eb, eo, none⟩ = some (bitv y) := (hb1.cell (p := ⟨eb, eo, none⟩) l2).trans hel
  have HN : Hid (v.ownBlock ≠ some b0 ∧ v.ownBlock ≠ some b1 ∧ v.ownBlock ≠ some W.heap.size ∧ v.ownBlock ≠ some eb) := Lib.hid ⟨fun e => absurd (hown.lt _ e).1 (by omega), fun e => absurd (hown.lt _ e).1 (by omega), fun e => absurd (hown.lt _ e).2 (by omega), fun e => absurd (hown.lt _ e).1 (by omega)⟩
  obtain ⟨V, hV⟩ : ∃ V, (bitN y) = V := ⟨_, rfl⟩
  rw [hV] at hP
  rw [hV]
  
  have HP : Hid (∀ X : World, X.ownsRow B 5 1 v n (xs.map u8v) → B ≤ X.heap.size → Calls Tryz.prog 88 #[v, .int .i64 (V.toNat : Int), .int .i64 2] X fun e w' => ∃ A c, e = .returned (.slice A (n + 2) c) ∧ w'.ownsRow B 5 1 (.slice A (n + 2) c) (n + 2) ((xs ++ low V 2).map u8v) ∧ Below B X w' ∧ X.grownBy w' v.ownBlock ∧ (∀ g, (Value.slice A (n + 2) c).ownBlock = some g → v.ownBlock = some g ∨ X.heap.size ≤ g)) := Lib.hid (fun X ho hz => put6_any V 2 (.inr rfl) B v n xs X ho hz (by omega))
  have hown1d : (W.alloc (.cells #[.int .i64 a.code, .int .i64 a.addr, .int .i64 a.count, .int .i64 a.to, .slice h.1 h.2.1 h.2.2, .slice (some ⟨eb, eo, none⟩) 1 e3, u16v a.and_, u16v a.or_] 26)).drew.ownsRow B 5 1 v n (xs.map u8v) := hown.alloc _
  have HZ : Hid (B ≤ (W.alloc (.cells #[.int .i64 a.code, .int .i64 a.addr, .int .i64 a.count, .int .i64 a.to, .slice h.1 h.2.1 h.2.2, .slice (some ⟨eb, eo, none⟩) 1 e3, u16v a.and_, u16v a.or_] 26)).drew.heap.size) := Lib.hid (Nat.le_trans hB hb1.size)
  have HB : Hid (Below B W (W.alloc (.cells #[.int .i64 a.code, .int .i64 a.addr, .int .i64 a.count, .int .i64 a.to, .slice h.1 h.2.1 h.2.2, .slice (some ⟨eb, eo, none⟩) 1 e3, u16v a.and_, u16v a.or_] 26)).drew) := Lib.hid (drewN_below (hb1.mono hB) 1)
  clear hown hb1 hc hel hel0 c0 c1 hV
  clear ha hWa hy
  rw [askV_eq]
  dsimp only
  go_enter Tryz.func87, Tryz.ntmps87
  go_wp2_with fail
  go_region_held3 (fun X => X.cell? ⟨b0, 0, none⟩ = some (.func (.func 48) #[] #[]) ∧ X.cell? ⟨b1, 0, none⟩ = some (.func (.func 49) #[] #[]) ∧ X.cell? ⟨W.heap.size, 5, none⟩ = some (.slice (some ⟨eb, eo, none⟩) 1 e3) ∧ X.cell? ⟨eb, eo, none⟩ = some (bitv y)) (first | with_reducible assumption | exact ⟨d0, d1, d2, d3⟩ | with_reducible exact ⟨f0, f1, f2, f3⟩ | fail) (first | (go_at_call 48; (with_reducible refine (hO _ _).mono ?_); rintro e w' ⟨rfl, rfl⟩) | (go_at_call 49; (with_reducible refine (hP _).mono ?_); rintro e w' ⟨rfl, rfl⟩) | (go_at_call 88; (with_reducible refine (HP.out _ hown1d HZ.out).mono ?_); rintro e w' ⟨A2, c2, rfl, hk1, hk2, hk3, hk4⟩; have f0 := grown_cell hk3 d0 HN.out.1; have f1 := grown_cell hk3 d1 HN.out.2.1; have f2 := grown_cell hk3 d2 HN.out.2.2.1; have f3 := grown_cell hk3 d3 HN.out.2.2.2) | fail)
  go_wp2_with fail
  go_ret
  exact ⟨A2, c2, rfl, hk1, HB.out.trans hk2⟩

set_option maxRecDepth 100000 in
set_option maxHeartbeats 400000 in
theorem siBDrop (b0 : Nat) (W : World) (c0 : W.cell? ⟨b0, 0, none⟩ = some (.func (.func 48) #[] #[])) (q : Nat) {S : Nat → Prop} (a : Ask) (h k : Option Addr × Nat × Nat) (x : AskAt W q S a h k) :
    Calls Tryz.prog 91 #[.pointer (some ⟨q, 0, none⟩), .pointer (some ⟨b0, 0, none⟩)] W fun e w' => (∃ v, e = .returned v) ∧ ∃ h' k', AskAt w' q S { a with bits := [] } h' k' ∧ But [q] W w' := by
  have hO := bitsOf_ok.ca
  have hc := x.cell (i := 5) (v := .slice k.1 k.2.1 k.2.2) rfl
  have hf := x.free 5
  have HS := Lib.hid (x.setB [] none 0 0 rfl (Nat.le_refl _) (Nat.zero_le _) (Lies.nil _ _) (fun _ _ _ e => by cases e))
  have HB := Lib.hid (But.one W q 5 (.slice none 0 0))
  clear x
  go_enter Tryz.func91, Tryz.ntmps91
  go_wp2_with (go_at_call 48; refine (hO _ _).mono ?_; rintro e w' ⟨rfl, rfl⟩)
  refine bodyPost_end (results_none rfl _ _ _) rfl ?_
  exact ⟨⟨_, rfl⟩, _, _, HS.out, HB.out⟩

/-- The variable behind a store of a new list of one. -/
theorem siBSet {w1 : World} {q : Nat} {S : Nat → Prop} {a : Ask} {h k : Option Addr × Nat × Nat} (x : AskAt w1 q S a h k) (y : Bool) : AskAt ((w1.setCell ⟨q, 5, none⟩ (.slice (some ⟨w1.heap.size, 0, none⟩) 1 1)).alloc (.cells #[bitv y] 4)) q S { a with bits := [y] } h (some ⟨w1.heap.size, 0, none⟩, 1, 1) ∧ But [q] w1 ((w1.setCell ⟨q, 5, none⟩ (.slice (some ⟨w1.heap.size, 0, none⟩) 1 1)).alloc (.cells #[bitv y] 4)) := by
  have hlt := x.lt
  rw [← alloc_set _ _ _ _ _ hlt]
  refine ⟨?_, (But.of_below ((Below.refl _ w1).alloc (Nat.le_refl _) _) (Nat.le_refl _) [q]).trans (But.one _ q 5 _)⟩
  refine (x.below ((Below.refl _ w1).alloc (Nat.le_refl _) _)).setB [y] (some ⟨w1.heap.size, 0, none⟩) 1 1 rfl (Nat.le_refl _) (by unfold maxLen; omega) (lies_new w1 _ _ _ rfl) ?_
  rintro b o s e _
  cases e
  exact fun hs => absurd (x.sl _ hs) (by omega)

set_option maxRecDepth 100000 in
set_option maxHeartbeats 400000 in
theorem siBRead (b0 b1 : Nat) (w0 W : World) (c0 : W.cell? ⟨b0, 0, none⟩ = some (.func (.func 48) #[] #[])) (c1 : W.cell? ⟨b1, 0, none⟩ = some (.func (.func 50) #[] #[])) (hw : Below w0.heap.size w0 W) (A : Option Addr) (n c : Nat) (b : List UInt8) (hn : b.length = n) (hnc : n ≤ c) (hcm : c ≤ maxLen) (hm : n ≤ 10000) (hb : Lies u8v w0 A b) (q : Nat) {S : Nat → Prop} (a : Ask) (h k : Option Addr × Nat × Nat) (x : AskAt W q S a h k)
    (may : Bool) (y y0 : Bool) (hg0 : ∀ W, ∃ m0, Calls Tryz.prog 50 #[.int .i64 0] W fun e w' => e = .returned (.tuple #[bitv y0, .bool m0]) ∧ w' = W)
    (hg : ∀ W, Calls Tryz.prog 50 #[.int .i64 ((cutN b 2).toNat : Int)] W fun e w' => e = .returned (.tuple #[bitv y, .bool may]) ∧ w' = W)
    (hr : PK.read b a .bit = if n < 2 then none else if may then some (b.drop 2, { a with bits := [y] }) else none) :
    Calls Tryz.prog 89 #[.slice A n c, .pointer (some ⟨q, 0, none⟩), .pointer (some ⟨b1, 0, none⟩), .pointer (some ⟨b0, 0, none⟩)] W (ReadPost w0 W q S .bit b a) := by
  have hO := bitsOf_ok.ca
  have hC := cut6_any A n c 2 (.inr rfl) b hn hnc hcm (by omega) W (hb.below hw (Nat.le_refl _))
  by_cases hlt : n < 2
  · have HC : Hid (Calls Tryz.prog 90 #[.slice A n c, .int .i64 2] W fun e w' => e = .returned (.tuple #[.int .i64 0, .slice none 0 0, .bool false]) ∧ Below W.heap.size W w') := Lib.hid (hC.mono fun e w' hh => by
      unfold CutPost at hh
      rw [if_pos hlt] at hh
      exact ⟨hh.2, hh.1⟩)
    have HR : Hid (PK.read b a .bit = none) := Lib.hid (by rw [hr, if_pos hlt])
    clear hC hn hg hr
    go_enter Tryz.func89, Tryz.ntmps89
    go_wp2_with fail
    refine HC.out.mono ?_
    rintro e w1 ⟨rfl, hb1⟩
    have x1 := x.below hb1
    have d0 := (hb1.cell (p := ⟨b0, 0, none⟩) (World.block_lt_of_cell? _ _ c0)).trans c0
    have d1 := (hb1.cell (p := ⟨b1, 0, none⟩) (World.block_lt_of_cell? _ _ c1)).trans c1
    have hc := x1.cell (i := 5) (v := .slice k.1 k.2.1 k.2.2) rfl
    have hf := x1.free 5
    have hql := x1.lt
    have HS := Lib.hid (siBSet x1 y0)
    have HB := Lib.hid (But.of_below hb1 (Nat.le_refl _) [q])
    obtain ⟨m0, hg1⟩ := hg0 w1
    clear c0 c1 x x1 hb1
    go_wp2_with (first | (go_at_call 48; refine (hO _ _).mono ?_; rintro e w' ⟨rfl, rfl⟩) | (go_at_call 50; refine hg1.mono ?_; rintro e w' ⟨rfl, rfl⟩) | fail)
    go_ret2
    exact ReadPost.no _ _ _ HR.out HS.out.1 (HB.out.trans HS.out.2)
  · have HC : Hid (Calls Tryz.prog 90 #[.slice A n c, .int .i64 2] W fun e w' => (∃ A' m c', e = .returned (.tuple #[.int .i64 ((cutN b 2).toNat : Int), .slice A' m c', .bool true]) ∧ (b.drop 2).length = m ∧ m ≤ c' ∧ c' ≤ maxLen ∧ Lies u8v w0 A' (b.drop 2)) ∧ Below W.heap.size W w') := Lib.hid (hC.mono fun e w' hh => by
      unfold CutPost at hh
      rw [if_neg hlt] at hh
      obtain ⟨h1, A', m, c', h2, h3, h4, h5, h6⟩ := hh
      exact ⟨⟨A', m, c', h2, h3, h4, h5, h6 _ hb⟩, h1⟩)
    rw [if_neg hlt] at hr
    have HR := Lib.hid hr
    generalize hV : cutN b 2 = V at *
    clear hC hn hr hg0 hV hb
    cases may
    all_goals (
      go_enter Tryz.func89, Tryz.ntmps89
      go_wp2_with fail
      refine HC.out.mono ?_
      rintro e w1 ⟨⟨A', m, c', rfl, k1, k2, k3, k4⟩, hb1⟩
      have x1 := x.below hb1
      have d0 := (hb1.cell (p := ⟨b0, 0, none⟩) (World.block_lt_of_cell? _ _ c0)).trans c0
      have d1 := (hb1.cell (p := ⟨b1, 0, none⟩) (World.block_lt_of_cell? _ _ c1)).trans c1
      have hc := x1.cell (i := 5) (v := .slice k.1 k.2.1 k.2.2) rfl
      have hf := x1.free 5
      have hql := x1.lt
      have HS := Lib.hid (siBSet x1 y)
      have HB := Lib.hid (But.of_below hb1 (Nat.le_refl _) [q])
      have hg1 := hg w1
      clear c0 c1 x x1 hb1
      go_wp2_with (first | (go_at_call 48; refine (hO _ _).mono ?_; rintro e w' ⟨rfl, rfl⟩) | (go_at_call 50; refine hg1.mono ?_; rintro e w' ⟨rfl, rfl⟩) | fail)
      go_ret2
      first
      | exact ReadPost.no _ _ _ (by rw [HR.out]; rfl) HS.out.1 (HB.out.trans HS.out.2)
      | exact ReadPost.yes (by rw [HR.out]; rfl) HS.out.1 (HB.out.trans HS.out.2) k1 k2 k3 k4)

set_option maxRecDepth 100000 in
set_option maxHeartbeats 400000 in
theorem siWFits (b0 : Nat) (W : World) (c0 : W.cell? ⟨b0, 0, none⟩ = some (.func (.func 53) #[] #[])) (a : Ask) (h k : Option Addr × Nat × Nat) (ha : AskIn W a h k) :
    Calls Tryz.prog 92 #[askV a h k, .pointer (some ⟨b0, 0, none⟩)] W fun e w' => e = .returned (.bool (a.words.length == 1)) ∧ Below W.heap.size W w' := by
  have hO := wordsOf_ok.ca
  have hc := box_cell W (askCells a h k) 26 4 (.slice h.1 h.2.1 h.2.2) rfl
  have l0 := World.block_lt_of_cell? _ _ c0
  have HN := Lib.hid ha.hn
  unfold askCells at hc
  rw [askV_eq]
  obtain ⟨e1, e2, e3⟩ := h
  dsimp only at *
  clear ha
  by_cases g : e2 = 1
  · subst g
    go_enter Tryz.func92, Tryz.ntmps92
    go_wp2_with (go_at_call 53; refine (hO _ _).mono ?_; rintro e w' ⟨rfl, rfl⟩)
    go_ret
    exact ⟨by rw [HN.out]; rfl, (Below.refl _ _).alloc (Nat.le_refl _) _⟩
  · have g' : ((e2 : Int) == 1) = false := by rw [beq_eq_false_iff_ne]; omega
    go_enter Tryz.func92, Tryz.ntmps92
    go_wp2_with (go_at_call 53; refine (hO _ _).mono ?_; rintro e w' ⟨rfl, rfl⟩)
    go_ret
    exact ⟨by rw [HN.out, beq_eq_false_iff_ne.2 g]; first | rfl | simp [g'], (Below.refl _ _).alloc (Nat.le_refl _) _⟩

set_option maxRecDepth 100000 in
set_option maxHeartbeats 400000 in
theorem siWLay (b0 b1 : Nat) (Wa W : World) (c0 : W.cell? ⟨b0, 0, none⟩ = some (.func (.func 53) #[] #[])) (c1 : W.cell? ⟨b1, 0, none⟩ = some (.func (.func 54) #[] #[])) (a : Ask) (h k : Option Addr × Nat × Nat) (hWa : Below Wa.heap.size Wa W) (ha : AskIn Wa a h k) (y : UInt16) (hy : a.words = [y])
    (B : Nat) (v : Value) (n : Nat) (xs : List UInt8) (hown : W.ownsRow B 5 1 v n (xs.map u8v)) (hB : B ≤ W.heap.size) (hWB : Wa.heap.size ≤ B) (hB0 : b0 < B) (hB1 : b1 < B) (hn : n ≤ 20000) :
    Calls Tryz.prog 93 #[v, askV a h k, .pointer (some ⟨b1, 0, none⟩), .pointer (some ⟨b0, 0, none⟩)] W fun e w' => ∃ A c, e = .returned (.slice A (n + 2) c) ∧ w'.ownsRow B 5 1 (.slice A (n + 2) c) (n + 2) ((xs ++ low y 2).map u8v) ∧ Below B W w' := by
  have h1 : h.2.1 = 1 := by rw [← ha.hn, hy]; rfl
  obtain ⟨eb, eo, eA, hel0⟩ := ha.hl 0 (by rw [hy]; simp)
  obtain ⟨e1, e2, e3⟩ := h
  obtain rfl : e2 = 1 := h1
  obtain rfl : e1 = some ⟨eb, eo, none⟩ := eA
  have hO := wordsOf_ok.ca
  have hP := fun W => putWord_any y W
  have hc := box_cell W #[.int .i64 a.code, .int .i64 a.addr, .int .i64 a.count, .int .i64 a.to, .slice (some ⟨eb, eo, none⟩) 1 e3, .slice k.1 k.2.1 k.2.2, u16v a.and_, u16v a.or_] 26 4 (.slice (some ⟨eb, eo, none⟩) 1 e3) rfl
  have hel : W.cell? ⟨eb, eo, none⟩ = some (u16v y) := by
    have := (hWa.cell (p := ⟨eb, eo + 0, none⟩) (World.block_lt_of_cell? _ _ hel0)).trans hel0
    simpa [hy] using this
  have hebl : eb < Wa.heap.size := World.block_lt_of_cell? _ _ hel0
  have l0 := World.block_lt_of_cell? _ _ c0
  have l1 := World.block_lt_of_cell? _ _ c1
  have l2 : eb < W.heap.size := World.block_lt_of_cell? _ _ hel
  have hb1 : Below W.heap.size W (W.alloc (.cells #[.int .i64 a.code, .int .i64 a.addr, .int .i64 a.count, .int .i64 a.to, .slice (some ⟨eb, eo, none⟩) 1 e3, .slice k.1 k.2.1 k.2.2, u16v a.and_, u16v a.or_] 26)) := (Below.refl _ _).alloc (Nat.le_refl _) _
  have d0 : (W.alloc (.cells #[.int .i64 a.code, .int .i64 a.addr, .int .i64 a.count, .int .i64 a.to, .slice (some ⟨eb, eo, none⟩) 1 e3, .slice k.1 k.2.1 k.2.2, u16v a.and_, u16v a.or_] 26)).drew.cell? ⟨b0, 0, none⟩ = some (.func (.func 53) #[] #[]) := (hb1.cell (p := ⟨b0, 0, none⟩) l0).trans c0
  have d1 : (W.alloc (.cells #[.int .i64 a.code, .int .i64 a.addr, .int .i64 a.count, .int .i64 a.to, .slice (some ⟨eb, eo, none⟩) 1 e3, .slice k.1 k.2.1 k.2.2, u16v a.and_, u16v a.or_] 26)).drew.cell? ⟨b1, 0, none⟩ = some (.func (.func 54) #[] #[]) := (hb1.cell (p := ⟨b1, 0, none⟩) l1).trans c1
  have d2 : (W.alloc (.cells #[.int .i64 a.code, .int .i64 a.addr, .int .i64 a.count, .int .i64 a.to, .slice (some ⟨eb, eo, none⟩) 1 e3, .slice k.1 k.2.1 k.2.2, u16v a.and_, u16v a.or_] 26)).drew.cell? ⟨W.heap.size, 4, none⟩ = some (.slice (some ⟨eb, eo, none⟩) 1 e3) := hc
  have d3 : (W.alloc (.cells #[.int .i64 a.code, .int .i64 a.addr, .int .i64 a.count, .int .i64 a.to, .slice (some ⟨eb, eo, none⟩) 1 e3, .slice k.1 k.2.1 k.2.2, u16v a.and_, u16v a.or_] 26)).drew.cell? ⟨eb, eo, none⟩ = some (u16v y) := (hb1.cell (p := ⟨eb, eo, none⟩) l2).trans hel
  have HN : Hid (v.ownBlock ≠ some b0 ∧ v.ownBlock ≠ some b1 ∧ v.ownBlock ≠ some W.heap.size ∧ v.ownBlock ≠ some eb) := Lib.hid ⟨fun e => absurd (hown.lt _ e).1 (by omega), fun e => absurd (hown.lt _ e).1 (by omega), fun e => absurd (hown.lt _ e).2 (by omega), fun e => absurd (hown.lt _ e).1 (by omega)⟩
  obtain ⟨V, hV⟩ : ∃ V, y = V := ⟨_, rfl⟩
  skip
  subst hV
  have hV := 0
  have HP : Hid (∀ X : World, X.ownsRow B 5 1 v n (xs.map u8v) → B ≤ X.heap.size → Calls Tryz.prog 88 #[v, .int .i64 (y.toNat : Int), .int .i64 2] X fun e w' => ∃ A c, e = .returned (.slice A (n + 2) c) ∧ w'.ownsRow B 5 1 (.slice A (n + 2) c) (n + 2) ((xs ++ low y 2).map u8v) ∧ Below B X w' ∧ X.grownBy w' v.ownBlock ∧ (∀ g, (Value.slice A (n + 2) c).ownBlock = some g → v.ownBlock = some g ∨ X.heap.size ≤ g)) := Lib.hid (fun X ho hz => put6_any y 2 (.inr rfl) B v n xs X ho hz (by omega))
  have hown1d : (W.alloc (.cells #[.int .i64 a.code, .int .i64 a.addr, .int .i64 a.count, .int .i64 a.to, .slice (some ⟨eb, eo, none⟩) 1 e3, .slice k.1 k.2.1 k.2.2, u16v a.and_, u16v a.or_] 26)).drew.ownsRow B 5 1 v n (xs.map u8v) := hown.alloc _
  have HZ : Hid (B ≤ (W.alloc (.cells #[.int .i64 a.code, .int .i64 a.addr, .int .i64 a.count, .int .i64 a.to, .slice (some ⟨eb, eo, none⟩) 1 e3, .slice k.1 k.2.1 k.2.2, u16v a.and_, u16v a.or_] 26)).drew.heap.size) := Lib.hid (Nat.le_trans hB hb1.size)
  have HB : Hid (Below B W (W.alloc (.cells #[.int .i64 a.code, .int .i64 a.addr, .int .i64 a.count, .int .i64 a.to, .slice (some ⟨eb, eo, none⟩) 1 e3, .slice k.1 k.2.1 k.2.2, u16v a.and_, u16v a.or_] 26)).drew) := Lib.hid (drewN_below (hb1.mono hB) 1)
  clear hown hb1 hc hel hel0 c0 c1 hV
  clear ha hWa hy
  rw [askV_eq]
  dsimp only
  go_enter Tryz.func93, Tryz.ntmps93
  go_wp2_with fail
  go_region_held3 (fun X => X.cell? ⟨b0, 0, none⟩ = some (.func (.func 53) #[] #[]) ∧ X.cell? ⟨b1, 0, none⟩ = some (.func (.func 54) #[] #[]) ∧ X.cell? ⟨W.heap.size, 4, none⟩ = some (.slice (some ⟨eb, eo, none⟩) 1 e3) ∧ X.cell? ⟨eb, eo, none⟩ = some (u16v y)) (first | with_reducible assumption | exact ⟨d0, d1, d2, d3⟩ | with_reducible exact ⟨f0, f1, f2, f3⟩ | fail) (first | (go_at_call 53; (with_reducible refine (hO _ _).mono ?_); rintro e w' ⟨rfl, rfl⟩) | (go_at_call 54; (with_reducible refine (hP _).mono ?_); rintro e w' ⟨rfl, rfl⟩) | (go_at_call 88; (with_reducible refine (HP.out _ hown1d HZ.out).mono ?_); rintro e w' ⟨A2, c2, rfl, hk1, hk2, hk3, hk4⟩; have f0 := grown_cell hk3 d0 HN.out.1; have f1 := grown_cell hk3 d1 HN.out.2.1; have f2 := grown_cell hk3 d2 HN.out.2.2.1; have f3 := grown_cell hk3 d3 HN.out.2.2.2) | fail)
  go_wp2_with fail
  go_ret
  exact ⟨A2, c2, rfl, hk1, HB.out.trans hk2⟩

set_option maxRecDepth 100000 in
set_option maxHeartbeats 400000 in
theorem siWDrop (b0 : Nat) (W : World) (c0 : W.cell? ⟨b0, 0, none⟩ = some (.func (.func 53) #[] #[])) (q : Nat) {S : Nat → Prop} (a : Ask) (h k : Option Addr × Nat × Nat) (x : AskAt W q S a h k) :
    Calls Tryz.prog 95 #[.pointer (some ⟨q, 0, none⟩), .pointer (some ⟨b0, 0, none⟩)] W fun e w' => (∃ v, e = .returned v) ∧ ∃ h' k', AskAt w' q S { a with words := [] } h' k' ∧ But [q] W w' := by
  have hO := wordsOf_ok.ca
  have hc := x.cell (i := 4) (v := .slice h.1 h.2.1 h.2.2) rfl
  have hf := x.free 4
  have HS := Lib.hid (x.setW [] none 0 0 rfl (Nat.le_refl _) (Nat.zero_le _) (Lies.nil _ _) (fun _ _ _ e => by cases e))
  have HB := Lib.hid (But.one W q 4 (.slice none 0 0))
  clear x
  go_enter Tryz.func95, Tryz.ntmps95
  go_wp2_with (go_at_call 53; refine (hO _ _).mono ?_; rintro e w' ⟨rfl, rfl⟩)
  refine bodyPost_end (results_none rfl _ _ _) rfl ?_
  exact ⟨⟨_, rfl⟩, _, _, HS.out, HB.out⟩

/-- The variable behind a store of a new list of one. -/
theorem siWSet {w1 : World} {q : Nat} {S : Nat → Prop} {a : Ask} {h k : Option Addr × Nat × Nat} (x : AskAt w1 q S a h k) (y : UInt16) : AskAt ((w1.setCell ⟨q, 4, none⟩ (.slice (some ⟨w1.heap.size, 0, none⟩) 1 1)).alloc (.cells #[u16v y] 24)) q S { a with words := [y] } (some ⟨w1.heap.size, 0, none⟩, 1, 1) k ∧ But [q] w1 ((w1.setCell ⟨q, 4, none⟩ (.slice (some ⟨w1.heap.size, 0, none⟩) 1 1)).alloc (.cells #[u16v y] 24)) := by
  have hlt := x.lt
  rw [← alloc_set _ _ _ _ _ hlt]
  refine ⟨?_, (But.of_below ((Below.refl _ w1).alloc (Nat.le_refl _) _) (Nat.le_refl _) [q]).trans (But.one _ q 4 _)⟩
  refine (x.below ((Below.refl _ w1).alloc (Nat.le_refl _) _)).setW [y] (some ⟨w1.heap.size, 0, none⟩) 1 1 rfl (Nat.le_refl _) (by unfold maxLen; omega) (lies_new w1 _ _ _ rfl) ?_
  rintro b o s e _
  cases e
  exact fun hs => absurd (x.sl _ hs) (by omega)

set_option maxRecDepth 100000 in
set_option maxHeartbeats 400000 in
theorem siWRead (b0 b1 : Nat) (w0 W : World) (c0 : W.cell? ⟨b0, 0, none⟩ = some (.func (.func 53) #[] #[])) (c1 : W.cell? ⟨b1, 0, none⟩ = some (.func (.func 55) #[] #[])) (hw : Below w0.heap.size w0 W) (A : Option Addr) (n c : Nat) (b : List UInt8) (hn : b.length = n) (hnc : n ≤ c) (hcm : c ≤ maxLen) (hm : n ≤ 10000) (hb : Lies u8v w0 A b) (q : Nat) {S : Nat → Prop} (a : Ask) (h k : Option Addr × Nat × Nat) (x : AskAt W q S a h k)
    (may : Bool) (y y0 : UInt16) (hg0 : ∀ W, ∃ m0, Calls Tryz.prog 55 #[.int .i64 0] W fun e w' => e = .returned (.tuple #[u16v y0, .bool m0]) ∧ w' = W)
    (hg : ∀ W, Calls Tryz.prog 55 #[.int .i64 ((cutN b 2).toNat : Int)] W fun e w' => e = .returned (.tuple #[u16v y, .bool may]) ∧ w' = W)
    (hr : PK.read b a .word = if n < 2 then none else if may then some (b.drop 2, { a with words := [y] }) else none) :
    Calls Tryz.prog 94 #[.slice A n c, .pointer (some ⟨q, 0, none⟩), .pointer (some ⟨b1, 0, none⟩), .pointer (some ⟨b0, 0, none⟩)] W (ReadPost w0 W q S .word b a) := by
  have hO := wordsOf_ok.ca
  have hC := cut6_any A n c 2 (.inr rfl) b hn hnc hcm (by omega) W (hb.below hw (Nat.le_refl _))
  by_cases hlt : n < 2
  · have HC : Hid (Calls Tryz.prog 90 #[.slice A n c, .int .i64 2] W fun e w' => e = .returned (.tuple #[.int .i64 0, .slice none 0 0, .bool false]) ∧ Below W.heap.size W w') := Lib.hid (hC.mono fun e w' hh => by
      unfold CutPost at hh
      rw [if_pos hlt] at hh
      exact ⟨hh.2, hh.1⟩)
    have HR : Hid (PK.read b a .word = none) := Lib.hid (by rw [hr, if_pos hlt])
    clear hC hn hg hr
    go_enter Tryz.func94, Tryz.ntmps94
    go_wp2_with fail
    refine HC.out.mono ?_
    rintro e w1 ⟨rfl, hb1⟩
    have x1 := x.below hb1
    have d0 := (hb1.cell (p := ⟨b0, 0, none⟩) (World.block_lt_of_cell? _ _ c0)).trans c0
    have d1 := (hb1.cell (p := ⟨b1, 0, none⟩) (World.block_lt_of_cell? _ _ c1)).trans c1
    have hc := x1.cell (i := 4) (v := .slice h.1 h.2.1 h.2.2) rfl
    have hf := x1.free 4
    have hql := x1.lt
    have HS := Lib.hid (siWSet x1 y0)
    have HB := Lib.hid (But.of_below hb1 (Nat.le_refl _) [q])
    obtain ⟨m0, hg1⟩ := hg0 w1
    clear c0 c1 x x1 hb1
    go_wp2_with (first | (go_at_call 53; refine (hO _ _).mono ?_; rintro e w' ⟨rfl, rfl⟩) | (go_at_call 55; refine hg1.mono ?_; rintro e w' ⟨rfl, rfl⟩) | fail)
    go_ret2
    exact ReadPost.no _ _ _ HR.out HS.out.1 (HB.out.trans HS.out.2)
  · have HC : Hid (Calls Tryz.prog 90 #[.slice A n c, .int .i64 2] W fun e w' => (∃ A' m c', e = .returned (.tuple #[.int .i64 ((cutN b 2).toNat : Int), .slice A' m c', .bool true]) ∧ (b.drop 2).length = m ∧ m ≤ c' ∧ c' ≤ maxLen ∧ Lies u8v w0 A' (b.drop 2)) ∧ Below W.heap.size W w') := Lib.hid (hC.mono fun e w' hh => by
      unfold CutPost at hh
      rw [if_neg hlt] at hh
      obtain ⟨h1, A', m, c', h2, h3, h4, h5, h6⟩ := hh
      exact ⟨⟨A', m, c', h2, h3, h4, h5, h6 _ hb⟩, h1⟩)
    rw [if_neg hlt] at hr
    have HR := Lib.hid hr
    generalize hV : cutN b 2 = V at *
    clear hC hn hr hg0 hV hb
    cases may
    all_goals (
      go_enter Tryz.func94, Tryz.ntmps94
      go_wp2_with fail
      refine HC.out.mono ?_
      rintro e w1 ⟨⟨A', m, c', rfl, k1, k2, k3, k4⟩, hb1⟩
      have x1 := x.below hb1
      have d0 := (hb1.cell (p := ⟨b0, 0, none⟩) (World.block_lt_of_cell? _ _ c0)).trans c0
      have d1 := (hb1.cell (p := ⟨b1, 0, none⟩) (World.block_lt_of_cell? _ _ c1)).trans c1
      have hc := x1.cell (i := 4) (v := .slice h.1 h.2.1 h.2.2) rfl
      have hf := x1.free 4
      have hql := x1.lt
      have HS := Lib.hid (siWSet x1 y)
      have HB := Lib.hid (But.of_below hb1 (Nat.le_refl _) [q])
      have hg1 := hg w1
      clear c0 c1 x x1 hb1
      go_wp2_with (first | (go_at_call 53; refine (hO _ _).mono ?_; rintro e w' ⟨rfl, rfl⟩) | (go_at_call 55; refine hg1.mono ?_; rintro e w' ⟨rfl, rfl⟩) | fail)
      go_ret2
      first
      | exact ReadPost.no _ _ _ (by rw [HR.out]; rfl) HS.out.1 (HB.out.trans HS.out.2)
      | exact ReadPost.yes (by rw [HR.out]; rfl) HS.out.1 (HB.out.trans HS.out.2) k1 k2 k3 k4)
end Go.Proofs.YtcbkbdoaaaofjaaGreat

/-
  The landed ask: the function values of parts that are lists.
-/
namespace Go.Proofs.YtcbkbdoaaaofjaaGreat
open Go.RowKit Go.Shelf

/-- What wordsIn leaves. -/
def WordsInPost (w : World) (l : List UInt8) (N : Nat) (e : Ending) (w' : World) : Prop :=
  ∃ A' n' c', e = .returned (.tuple #[.slice A' n' c', .bool (Word.isWords l && decide ((Word.words l).length = N))]) ∧ (Word.ansWords l).length = n' ∧ n' ≤ c' ∧ c' ≤ maxLen ∧ Lies u16v w' A' (Word.ansWords l) ∧ Below w.heap.size w w' ∧ ∀ b o s, A' = some ⟨b, o, s⟩ → 0 < n' → w.heap.size ≤ b
theorem ansWords_yes {l : List UInt8} (h : Word.isWords l = true) : Word.ansWords l = Word.words l := by unfold Word.ansWords; rw [h]; rfl

set_option maxRecDepth 100000 in
set_option maxHeartbeats 400000 in
theorem wordsIn_any (A : Option Addr) (n c N : Nat) (l : List UInt8) (hn : l.length = n) (hnc : n ≤ c) (hm : n ≤ 20000) (w : World) (hb : Lies u8v w A l) :
    Calls Tryz.prog 105 #[.slice A n c, .int .i64 (N : Int)] w (WordsInPost w l N) := by
  have HC := Lib.hid (words_any A n c l hn hnc hm w hb)
  clear hn hb
  have hv : ∀ n', (Word.ansWords l).length = n' → Word.isWords l = true → (Word.words l).length = n' := fun n' h h1 => by rw [← ansWords_yes h1]; exact h
  cases hi : Word.isWords l with
  | false =>
    have HI := Lib.hid hi
    clear hi
    go_enter Tryz.func105, Tryz.ntmps105
    go_wp2_with fail
    refine HC.out.mono ?_
    rintro e w1 ⟨A', n', c', rfl, k1, k2, k3, k4, k5, k6⟩
    rw [HI.out]
    go_wp2_with fail
    go_ret2
    exact ⟨A', n', c', by rw [HI.out]; rfl, k1, k2, k3, k4, k5, k6⟩
  | true =>
    have HI := Lib.hid hi
    have HV := Lib.hid (fun n' h => hv n' h hi)
    clear hi hv
    go_enter Tryz.func105, Tryz.ntmps105
    go_wp2_with fail
    refine HC.out.mono ?_
    rintro e w1 ⟨A', n', c', rfl, k1, k2, k3, k4, k5, k6⟩
    rw [HI.out]
    have HK := Lib.hid (HV.out n' k1)
    by_cases g : n' = N
    · subst g
      go_wp2_with fail
      go_ret2
      exact ⟨A', _, c', by rw [HI.out, HK.out]; simp, k1, k2, k3, k4, k5, k6⟩
    · have g' : ((n' : Int) == (N : Int)) = false := by rw [beq_eq_false_iff_ne]; omega
      go_wp2_with fail
      go_ret2
      exact ⟨A', n', c', by rw [HI.out, HK.out]; simp [g], k1, k2, k3, k4, k5, k6⟩

set_option maxRecDepth 100000 in
set_option maxHeartbeats 400000 in
theorem liBFits (b0 b1 m : Nat) (W : World) (c0 : W.cell? ⟨b0, 0, none⟩ = some (.func (.func 48) #[] #[])) (c1 : W.cell? ⟨b1, 0, none⟩ = some (.int .i64 (m : Int))) (a : Ask) (h k : Option Addr × Nat × Nat) (ha : AskIn W a h k) :
    Calls Tryz.prog 96 #[askV a h k, .pointer (some ⟨b0, 0, none⟩), .pointer (some ⟨b1, 0, none⟩)] W fun e w' => e = .returned (.bool (decide (1 ≤ a.bits.length) && decide (a.bits.length ≤ m))) ∧ Below W.heap.size W w' := by
  have hO := bitsOf_ok.ca
  have hc := box_cell W (askCells a h k) 26 5 (.slice k.1 k.2.1 k.2.2) rfl
  have l0 := World.block_lt_of_cell? _ _ c0
  have l1 := World.block_lt_of_cell? _ _ c1
  have HN := Lib.hid ha.kn
  unfold askCells at hc
  rw [askV_eq]
  obtain ⟨e1, e2, e3⟩ := k
  dsimp only at *
  clear ha
  by_cases g1 : 1 ≤ e2
  · have g1' : (1 : Int) ≤ (e2 : Int) := by omega
    by_cases g2 : e2 ≤ m
    · have g2' : (e2 : Int) ≤ (m : Int) := by omega
      go_enter Tryz.func96, Tryz.ntmps96
      go_wp2_with (go_at_call 48; refine (hO _ _).mono ?_; rintro e w' ⟨rfl, rfl⟩)
      go_ret
      exact ⟨by rw [HN.out]; simp [g1, g2], (Below.refl _ _).alloc (Nat.le_refl _) _⟩
    · have g2' : ¬ (e2 : Int) ≤ (m : Int) := by omega
      go_enter Tryz.func96, Tryz.ntmps96
      go_wp2_with (go_at_call 48; refine (hO _ _).mono ?_; rintro e w' ⟨rfl, rfl⟩)
      go_ret
      exact ⟨by rw [HN.out]; simp [g1, g2], (Below.refl _ _).alloc (Nat.le_refl _) _⟩
  · have g1' : ¬ (1 : Int) ≤ (e2 : Int) := by omega
    go_enter Tryz.func96, Tryz.ntmps96
    go_wp2_with (go_at_call 48; refine (hO _ _).mono ?_; rintro e w' ⟨rfl, rfl⟩)
    go_ret
    exact ⟨by rw [HN.out, decide_eq_false g1]; rfl, (Below.refl _ _).alloc (Nat.le_refl _) _⟩

set_option maxRecDepth 100000 in
set_option maxHeartbeats 400000 in
theorem liBLay (b0 b1 : Nat) (Wa W : World) (c0 : W.cell? ⟨b0, 0, none⟩ = some (.func (.func 48) #[] #[])) (c1 : W.cell? ⟨b1, 0, none⟩ = some (.func (.func 58) #[] #[])) (a : Ask) (h k : Option Addr × Nat × Nat) (hWa : Below Wa.heap.size Wa W) (ha : AskIn Wa a h k) (hl : a.bits.length ≤ 1968)
    (B : Nat) (v : Value) (n : Nat) (xs : List UInt8) (hown : W.ownsRow B 5 1 v n (xs.map u8v)) (hB : B ≤ W.heap.size) (_hWB : Wa.heap.size ≤ B) (_hB0 : b0 < B) (_hB1 : b1 < B) (hn : n ≤ 20000) :
    Calls Tryz.prog 97 #[v, askV a h k, .pointer (some ⟨b0, 0, none⟩), .pointer (some ⟨b1, 0, none⟩)] W fun e w' => ∃ A m c, e = .returned (.slice A m c) ∧ w'.ownsRow B 5 1 (.slice A m c) m ((xs ++ (low (UInt16.ofNat a.bits.length) 2 ++ (low (UInt16.ofNat ((a.bits.length + 7) / 8)) 1 ++ Word.pack a.bits))).map u8v) ∧ Below B W w' := by
  have HN := Lib.hid ha.kn
  have hlies := (ha.kl).below hWa (Nat.le_refl _)
  have hc3 := ha.kc
  rw [HN.out] at hl
  rw [HN.out]
  obtain ⟨e1, e2, e3⟩ := k
  dsimp only at *
  have hO := bitsOf_ok.ca
  have hc := box_cell W #[.int .i64 a.code, .int .i64 a.addr, .int .i64 a.count, .int .i64 a.to, .slice h.1 h.2.1 h.2.2, .slice e1 e2 e3, u16v a.and_, u16v a.or_] 26 5 (.slice e1 e2 e3) rfl
  have l0 := World.block_lt_of_cell? _ _ c0
  have l1 := World.block_lt_of_cell? _ _ c1
  have hb1 : Below W.heap.size W (W.alloc (.cells #[.int .i64 a.code, .int .i64 a.addr, .int .i64 a.count, .int .i64 a.to, .slice h.1 h.2.1 h.2.2, .slice e1 e2 e3, u16v a.and_, u16v a.or_] 26)) := (Below.refl _ _).alloc (Nat.le_refl _) _
  have x1 : ((UInt16.ofNat e2).toNat : Int) = (e2 : Int) := by rw [UInt16.toNat_ofNat']; omega
  have x2 : ((UInt16.ofNat ((e2 + 7) / 8)).toNat : Int) = ((((e2 + 7) / 8) : Nat) : Int) := by rw [UInt16.toNat_ofNat']; omega
  have HP1 : Hid (∀ X : World, X.ownsRow B 5 1 v n (xs.map u8v) → B ≤ X.heap.size → Calls Tryz.prog 88 #[v, .int .i64 (e2 : Int), .int .i64 2] X fun e w' => ∃ A c, e = .returned (.slice A (n + 2) c) ∧ w'.ownsRow B 5 1 (.slice A (n + 2) c) (n + 2) ((xs ++ low (UInt16.ofNat e2) 2).map u8v) ∧ Below B X w' ∧ X.grownBy w' v.ownBlock ∧ (∀ g, (Value.slice A (n + 2) c).ownBlock = some g → v.ownBlock = some g ∨ X.heap.size ≤ g)) := Lib.hid (fun X ho hz => by
    have := put6_any (UInt16.ofNat e2) 2 (.inr rfl) B v n xs X ho hz (by omega)
    rw [x1] at this
    exact this)
  have HP2 : Hid (∀ (X : World) (v : Value) (ys : List UInt8), X.ownsRow B 5 1 v (n + 2) (ys.map u8v) → B ≤ X.heap.size → Calls Tryz.prog 88 #[v, .int .i64 ((((e2 + 7) / 8) : Nat) : Int), .int .i64 1] X fun e w' => ∃ A c, e = .returned (.slice A (n + 2 + 1) c) ∧ w'.ownsRow B 5 1 (.slice A (n + 2 + 1) c) (n + 2 + 1) ((ys ++ low (UInt16.ofNat ((e2 + 7) / 8)) 1).map u8v) ∧ Below B X w' ∧ X.grownBy w' v.ownBlock ∧ (∀ g, (Value.slice A (n + 2 + 1) c).ownBlock = some g → v.ownBlock = some g ∨ X.heap.size ≤ g)) := Lib.hid (fun X v ys ho hz => by
    have := put6_any (UInt16.ofNat ((e2 + 7) / 8)) 1 (.inl rfl) B v (n + 2) ys X ho hz (by omega)
    rw [x2] at this
    exact this)
  have HPK := Lib.hid (pack_any e1 e2 e3 a.bits HN.out (by omega) (by omega) (W.alloc (.cells #[.int .i64 a.code, .int .i64 a.addr, .int .i64 a.count, .int .i64 a.to, .slice h.1 h.2.1 h.2.2, .slice e1 e2 e3, u16v a.and_, u16v a.or_] 26)) (hlies.below hb1 (Nat.le_refl _)))
  have HBL : Hid ((Word.pack a.bits).length = ((e2 + 7) / 8)) := Lib.hid (by rw [Word.pack_length, HN.out])
  clear ha hWa x1 x2 hlies
  rw [askV_eq]
  dsimp only
  go_enter Tryz.func97, Tryz.ntmps97
  go_wp2_with (go_at_call 48; refine (hO _ _).mono ?_; rintro e w' ⟨rfl, rfl⟩)
  go_at_call 58
  refine HPK.out.mono ?_
  rintro e w2 ⟨A2, c2, rfl, k1, k2, k3, k4, k5⟩
  have hown2 := own_below (hown.alloc (.cells #[.int .i64 a.code, .int .i64 a.addr, .int .i64 a.count, .int .i64 a.to, .slice h.1 h.2.1 h.2.2, .slice e1 e2 e3, u16v a.and_, u16v a.or_] 26)) k4
  have hz2 : B ≤ w2.heap.size := Nat.le_trans hB (Nat.le_trans hb1.size k4.size)
  have HB2 := Lib.hid ((hb1.mono hB).trans (k4.mono (Nat.le_trans hB hb1.size)))
  have hfar : ∀ b o s, A2 = some ⟨b, o, s⟩ → v.ownBlock ≠ some b := fun b o s e e2 => by
    have h1 := k5 b o s e
    have h2 := (hown.lt _ e2).2
    have h3 := hb1.size
    omega
  have hl3 : ∀ w3, w2.grownBy w3 v.ownBlock → Lies u8v w3 A2 (Word.pack a.bits) := fun w3 hg j hj => by
    obtain ⟨b, o, e, hcell⟩ := k3 j hj
    exact ⟨b, o, e, grown_cell hg hcell (hfar _ _ _ e)⟩
  clear hown hc c0 c1 hb1
  go_wp2_with fail
  refine (HP1.out _ hown2 hz2).mono ?_
  rintro e w3 ⟨A3, c3, rfl, g1, g2, g3, g4⟩
  have hz3 := Nat.le_trans hz2 g3.size
  have hl3' := hl3 _ g3
  go_wp2_with fail
  refine (HP2.out _ _ _ g1 hz3).mono ?_
  rintro e w4 ⟨A4, c4, rfl, m1, m2, m3, m4⟩
  have hl4 : Lies u8v w4 A2 (Word.pack a.bits) := fun j hj => by
    obtain ⟨b, o, e, hcell⟩ := hl3' j hj
    obtain ⟨b', o', e', hcell'⟩ := k3 j hj
    obtain ⟨rfl, rfl⟩ : b = b' ∧ o = o' := by rw [e] at e'; simpa using e'
    refine ⟨b, o, e, grown_cell m3 hcell ?_⟩
    intro e6
    rcases g4 _ e6 with h1 | h1
    · exact hfar _ _ _ e' h1
    · have := World.block_lt_of_cell? _ _ hcell'
      dsimp only at this h1
      omega
  have hz4 := Nat.le_trans hz3 m3.size
  go_wp2_with (at_builtin; go_must (refine wpList_append_lies kit8 one8 _ rfl (.tmp 22) (.tmp 23) rfl B _ (n + 2 + 1) _ rfl m1 A2 ((e2 + 7) / 8) c2 (Word.pack a.bits) rfl HBL.out hl4 (by omega) (by unfold maxLen; omega) hz4 ?_; intro A5 c5 w5 p1 p2 p3))
  go_ret
  refine ⟨A5, _, c5, rfl, ?_, HB2.out.trans (g2.trans (m2.trans p3))⟩
  rw [List.append_assoc, List.append_assoc] at p1
  exact p1

set_option maxRecDepth 100000 in
set_option maxHeartbeats 400000 in
theorem liWFits (b0 b1 m : Nat) (W : World) (c0 : W.cell? ⟨b0, 0, none⟩ = some (.func (.func 53) #[] #[])) (c1 : W.cell? ⟨b1, 0, none⟩ = some (.int .i64 (m : Int))) (a : Ask) (h k : Option Addr × Nat × Nat) (ha : AskIn W a h k) :
    Calls Tryz.prog 126 #[askV a h k, .pointer (some ⟨b0, 0, none⟩), .pointer (some ⟨b1, 0, none⟩)] W fun e w' => e = .returned (.bool (decide (1 ≤ a.words.length) && decide (a.words.length ≤ m))) ∧ Below W.heap.size W w' := by
  have hO := wordsOf_ok.ca
  have hc := box_cell W (askCells a h k) 26 4 (.slice h.1 h.2.1 h.2.2) rfl
  have l0 := World.block_lt_of_cell? _ _ c0
  have l1 := World.block_lt_of_cell? _ _ c1
  have HN := Lib.hid ha.hn
  unfold askCells at hc
  rw [askV_eq]
  obtain ⟨e1, e2, e3⟩ := h
  dsimp only at *
  clear ha
  by_cases g1 : 1 ≤ e2
  · have g1' : (1 : Int) ≤ (e2 : Int) := by omega
    by_cases g2 : e2 ≤ m
    · have g2' : (e2 : Int) ≤ (m : Int) := by omega
      go_enter Tryz.func126, Tryz.ntmps126
      go_wp2_with (go_at_call 53; refine (hO _ _).mono ?_; rintro e w' ⟨rfl, rfl⟩)
      go_ret
      exact ⟨by rw [HN.out]; simp [g1, g2], (Below.refl _ _).alloc (Nat.le_refl _) _⟩
    · have g2' : ¬ (e2 : Int) ≤ (m : Int) := by omega
      go_enter Tryz.func126, Tryz.ntmps126
      go_wp2_with (go_at_call 53; refine (hO _ _).mono ?_; rintro e w' ⟨rfl, rfl⟩)
      go_ret
      exact ⟨by rw [HN.out]; simp [g1, g2], (Below.refl _ _).alloc (Nat.le_refl _) _⟩
  · have g1' : ¬ (1 : Int) ≤ (e2 : Int) := by omega
    go_enter Tryz.func126, Tryz.ntmps126
    go_wp2_with (go_at_call 53; refine (hO _ _).mono ?_; rintro e w' ⟨rfl, rfl⟩)
    go_ret
    exact ⟨by rw [HN.out, decide_eq_false g1]; rfl, (Below.refl _ _).alloc (Nat.le_refl _) _⟩

set_option maxRecDepth 100000 in
set_option maxHeartbeats 400000 in
theorem liWLay (b0 b1 : Nat) (Wa W : World) (c0 : W.cell? ⟨b0, 0, none⟩ = some (.func (.func 53) #[] #[])) (c1 : W.cell? ⟨b1, 0, none⟩ = some (.func (.func 72) #[] #[])) (a : Ask) (h k : Option Addr × Nat × Nat) (hWa : Below Wa.heap.size Wa W) (ha : AskIn Wa a h k) (hl : a.words.length ≤ 123)
    (B : Nat) (v : Value) (n : Nat) (xs : List UInt8) (hown : W.ownsRow B 5 1 v n (xs.map u8v)) (hB : B ≤ W.heap.size) (_hWB : Wa.heap.size ≤ B) (_hB0 : b0 < B) (_hB1 : b1 < B) (hn : n ≤ 20000) :
    Calls Tryz.prog 127 #[v, askV a h k, .pointer (some ⟨b0, 0, none⟩), .pointer (some ⟨b1, 0, none⟩)] W fun e w' => ∃ A m c, e = .returned (.slice A m c) ∧ w'.ownsRow B 5 1 (.slice A m c) m ((xs ++ (low (UInt16.ofNat a.words.length) 2 ++ (low (UInt16.ofNat (2 * a.words.length)) 1 ++ Word.bytes a.words))).map u8v) ∧ Below B W w' := by
  have HN := Lib.hid ha.hn
  have hlies := (ha.hl).below hWa (Nat.le_refl _)
  have hc3 := ha.hc
  rw [HN.out] at hl
  rw [HN.out]
  obtain ⟨e1, e2, e3⟩ := h
  dsimp only at *
  have hO := wordsOf_ok.ca
  have hc := box_cell W #[.int .i64 a.code, .int .i64 a.addr, .int .i64 a.count, .int .i64 a.to, .slice e1 e2 e3, .slice k.1 k.2.1 k.2.2, u16v a.and_, u16v a.or_] 26 4 (.slice e1 e2 e3) rfl
  have l0 := World.block_lt_of_cell? _ _ c0
  have l1 := World.block_lt_of_cell? _ _ c1
  have hb1 : Below W.heap.size W (W.alloc (.cells #[.int .i64 a.code, .int .i64 a.addr, .int .i64 a.count, .int .i64 a.to, .slice e1 e2 e3, .slice k.1 k.2.1 k.2.2, u16v a.and_, u16v a.or_] 26)) := (Below.refl _ _).alloc (Nat.le_refl _) _
  have x1 : ((UInt16.ofNat e2).toNat : Int) = (e2 : Int) := by rw [UInt16.toNat_ofNat']; omega
  have x2 : ((UInt16.ofNat (2 * e2)).toNat : Int) = (((2 * e2) : Nat) : Int) := by rw [UInt16.toNat_ofNat']; omega
  have HP1 : Hid (∀ X : World, X.ownsRow B 5 1 v n (xs.map u8v) → B ≤ X.heap.size → Calls Tryz.prog 88 #[v, .int .i64 (e2 : Int), .int .i64 2] X fun e w' => ∃ A c, e = .returned (.slice A (n + 2) c) ∧ w'.ownsRow B 5 1 (.slice A (n + 2) c) (n + 2) ((xs ++ low (UInt16.ofNat e2) 2).map u8v) ∧ Below B X w' ∧ X.grownBy w' v.ownBlock ∧ (∀ g, (Value.slice A (n + 2) c).ownBlock = some g → v.ownBlock = some g ∨ X.heap.size ≤ g)) := Lib.hid (fun X ho hz => by
    have := put6_any (UInt16.ofNat e2) 2 (.inr rfl) B v n xs X ho hz (by omega)
    rw [x1] at this
    exact this)
  have HP2 : Hid (∀ (X : World) (v : Value) (ys : List UInt8), X.ownsRow B 5 1 v (n + 2) (ys.map u8v) → B ≤ X.heap.size → Calls Tryz.prog 88 #[v, .int .i64 (((2 * e2) : Nat) : Int), .int .i64 1] X fun e w' => ∃ A c, e = .returned (.slice A (n + 2 + 1) c) ∧ w'.ownsRow B 5 1 (.slice A (n + 2 + 1) c) (n + 2 + 1) ((ys ++ low (UInt16.ofNat (2 * e2)) 1).map u8v) ∧ Below B X w' ∧ X.grownBy w' v.ownBlock ∧ (∀ g, (Value.slice A (n + 2 + 1) c).ownBlock = some g → v.ownBlock = some g ∨ X.heap.size ≤ g)) := Lib.hid (fun X v ys ho hz => by
    have := put6_any (UInt16.ofNat (2 * e2)) 1 (.inl rfl) B v (n + 2) ys X ho hz (by omega)
    rw [x2] at this
    exact this)
  have HPK := Lib.hid (bytes_any e1 e2 e3 a.words HN.out (by omega) (W.alloc (.cells #[.int .i64 a.code, .int .i64 a.addr, .int .i64 a.count, .int .i64 a.to, .slice e1 e2 e3, .slice k.1 k.2.1 k.2.2, u16v a.and_, u16v a.or_] 26)) (hlies.below hb1 (Nat.le_refl _)))
  have HBL : Hid ((Word.bytes a.words).length = (2 * e2)) := Lib.hid (by rw [Word.bytes_length, HN.out])
  clear ha hWa x1 x2 hlies
  rw [askV_eq]
  dsimp only
  go_enter Tryz.func127, Tryz.ntmps127
  go_wp2_with (go_at_call 53; refine (hO _ _).mono ?_; rintro e w' ⟨rfl, rfl⟩)
  go_at_call 72
  refine HPK.out.mono ?_
  rintro e w2 ⟨A2, c2, rfl, k1, k2, k3, k4, k5⟩
  have hown2 := own_below (hown.alloc (.cells #[.int .i64 a.code, .int .i64 a.addr, .int .i64 a.count, .int .i64 a.to, .slice e1 e2 e3, .slice k.1 k.2.1 k.2.2, u16v a.and_, u16v a.or_] 26)) k4
  have hz2 : B ≤ w2.heap.size := Nat.le_trans hB (Nat.le_trans hb1.size k4.size)
  have HB2 := Lib.hid ((hb1.mono hB).trans (k4.mono (Nat.le_trans hB hb1.size)))
  have hfar : ∀ b o s, A2 = some ⟨b, o, s⟩ → v.ownBlock ≠ some b := fun b o s e e2 => by
    have h1 := k5 b o s e
    have h2 := (hown.lt _ e2).2
    have h3 := hb1.size
    omega
  have hl3 : ∀ w3, w2.grownBy w3 v.ownBlock → Lies u8v w3 A2 (Word.bytes a.words) := fun w3 hg j hj => by
    obtain ⟨b, o, e, hcell⟩ := k3 j hj
    exact ⟨b, o, e, grown_cell hg hcell (hfar _ _ _ e)⟩
  clear hown hc c0 c1 hb1
  go_wp2_with fail
  refine (HP1.out _ hown2 hz2).mono ?_
  rintro e w3 ⟨A3, c3, rfl, g1, g2, g3, g4⟩
  have hz3 := Nat.le_trans hz2 g3.size
  have hl3' := hl3 _ g3
  go_wp2_with fail
  refine (HP2.out _ _ _ g1 hz3).mono ?_
  rintro e w4 ⟨A4, c4, rfl, m1, m2, m3, m4⟩
  have hl4 : Lies u8v w4 A2 (Word.bytes a.words) := fun j hj => by
    obtain ⟨b, o, e, hcell⟩ := hl3' j hj
    obtain ⟨b', o', e', hcell'⟩ := k3 j hj
    obtain ⟨rfl, rfl⟩ : b = b' ∧ o = o' := by rw [e] at e'; simpa using e'
    refine ⟨b, o, e, grown_cell m3 hcell ?_⟩
    intro e6
    rcases g4 _ e6 with h1 | h1
    · exact hfar _ _ _ e' h1
    · have := World.block_lt_of_cell? _ _ hcell'
      dsimp only at this h1
      omega
  have hz4 := Nat.le_trans hz3 m3.size
  go_wp2_with (at_builtin; go_must (refine wpList_append_lies kit8 one8 _ rfl (.tmp 22) (.tmp 23) rfl B _ (n + 2 + 1) _ rfl m1 A2 (2 * e2) c2 (Word.bytes a.words) rfl HBL.out hl4 (by omega) (by unfold maxLen; omega) hz4 ?_; intro A5 c5 w5 p1 p2 p3))
  go_ret
  refine ⟨A5, _, c5, rfl, ?_, HB2.out.trans (g2.trans (m2.trans p3))⟩
  rw [List.append_assoc, List.append_assoc] at p1
  exact p1
end Go.Proofs.YtcbkbdoaaaofjaaGreat

/-
  The landed ask: the function values that read, and drop, lists.
-/
namespace Go.Proofs.YtcbkbdoaaaofjaaGreat
open Go.RowKit Go.Shelf


set_option maxRecDepth 100000 in
set_option maxHeartbeats 400000 in
theorem liBDrop (b0 : Nat) (W : World) (c0 : W.cell? ⟨b0, 0, none⟩ = some (.func (.func 48) #[] #[])) (q : Nat) {S : Nat → Prop} (a : Ask) (h k : Option Addr × Nat × Nat) (x : AskAt W q S a h k) :
    Calls Tryz.prog 99 #[.pointer (some ⟨q, 0, none⟩), .pointer (some ⟨b0, 0, none⟩)] W fun e w' => (∃ v, e = .returned v) ∧ ∃ h' k', AskAt w' q S { a with bits := [] } h' k' ∧ But [q] W w' := by
  have hO := bitsOf_ok.ca
  have hc := x.cell (i := 5) (v := .slice k.1 k.2.1 k.2.2) rfl
  have hf := x.free 5
  have HS := Lib.hid (x.setB [] none 0 0 rfl (Nat.le_refl _) (Nat.zero_le _) (Lies.nil _ _) (fun _ _ _ e => by cases e))
  have HB := Lib.hid (But.one W q 5 (.slice none 0 0))
  clear x
  go_enter Tryz.func99, Tryz.ntmps99
  go_wp2_with (go_at_call 48; refine (hO _ _).mono ?_; rintro e w' ⟨rfl, rfl⟩)
  refine bodyPost_end (results_none rfl _ _ _) rfl ?_
  exact ⟨⟨_, rfl⟩, _, _, HS.out, HB.out⟩

set_option maxRecDepth 100000 in
set_option maxHeartbeats 400000 in
/-- The list is not there, or its bytes are too few. -/
theorem liBReadNo (b0 b1 m : Nat) (w0 W : World) (hw : Below w0.heap.size w0 W) (A : Option Addr) (n c : Nat) (b : List UInt8) (hn : b.length = n) (hnc : n ≤ c) (hcm : c ≤ maxLen) (hm : n ≤ 10000) (hb : Lies u8v w0 A b) (q : Nat) {S : Nat → Prop} (a : Ask) (h k : Option Addr × Nat × Nat) (x : AskAt W q S a h k)
    (hno : n < 2 ∨ n = 2 ∨ 3 ≤ n ∧ n - 3 < (cutN (b.drop 2) 1).toNat) :
    Calls Tryz.prog 98 #[.slice A n c, .pointer (some ⟨q, 0, none⟩), .pointer (some ⟨b1, 0, none⟩), .pointer (some ⟨b0, 0, none⟩)] W (ReadPost w0 W q S (.bits m) b a) := by
  have hC := cut6_any A n c 2 (.inr rfl) b hn hnc hcm (by omega) W (hb.below hw (Nat.le_refl _))
  have HR : Hid (PK.read b a (.bits m) = none) := Lib.hid (by
    unfold PK.read
    dsimp only
    rcases hno with g | g | ⟨g, g2⟩
    · rw [if_pos (by omega)]
    · rw [if_neg (by omega), if_pos (by rw [List.length_drop]; omega)]
    · rw [if_neg (by omega), if_neg (by rw [List.length_drop]; omega), if_pos (by rw [List.length_drop, List.length_drop]; omega)])
  have HX := Lib.hid (fun (w' : World) (hb : Below W.heap.size W w') => (⟨x.below hb, But.of_below hb (Nat.le_refl _) [q]⟩ : AskAt w' q S a h k ∧ But [q] W w'))
  rcases hno with hlt | hno
  · have HC : Hid (Calls Tryz.prog 90 #[.slice A n c, .int .i64 2] W fun e w' => e = .returned (.tuple #[.int .i64 0, .slice none 0 0, .bool false]) ∧ Below W.heap.size W w') := Lib.hid (hC.mono fun e w' hh => by
      unfold CutPost at hh
      rw [if_pos hlt] at hh
      exact ⟨hh.2, hh.1⟩)
    have HC2 : Hid (∀ w1, Below W.heap.size W w1 → Calls Tryz.prog 90 #[.slice none 0 0, .int .i64 1] w1 fun e w' => e = .returned (.tuple #[.int .i64 0, .slice none 0 0, .bool false]) ∧ Below W.heap.size W w') := Lib.hid (fun w1 h1 => (cut6_none none 0 0 1 [] (by omega) (by omega) w1).mono fun e w' hh => by
      unfold CutPost at hh
      rw [if_pos (by omega)] at hh
      exact ⟨hh.2, h1.trans (hh.1.mono h1.size)⟩)
    clear hC hn x
    go_enter Tryz.func98, Tryz.ntmps98
    go_wp2_with fail
    refine HC.out.mono ?_
    rintro e w1 ⟨rfl, hb1⟩
    go_wp2_with fail
    refine (HC2.out _ hb1).mono ?_
    rintro e w2 ⟨rfl, hb2⟩
    go_wp2_with fail
    go_ret2
    exact ReadPost.no _ _ _ HR.out (HX.out _ hb2).1 (HX.out _ hb2).2
  · have h2 : ¬ n < 2 := by omega
    have HC : Hid (Calls Tryz.prog 90 #[.slice A n c, .int .i64 2] W fun e w' => (∃ A' m c', e = .returned (.tuple #[.int .i64 ((cutN b 2).toNat : Int), .slice A' m c', .bool true]) ∧ (b.drop 2).length = m ∧ m ≤ c' ∧ c' ≤ maxLen ∧ Lies u8v w0 A' (b.drop 2)) ∧ Below W.heap.size W w') := Lib.hid (hC.mono fun e w' hh => by
      unfold CutPost at hh
      rw [if_neg h2] at hh
      obtain ⟨h1, A', m, c', h2, h3, h4, h5, h6⟩ := hh
      exact ⟨⟨A', m, c', h2, h3, h4, h5, h6 _ hb⟩, h1⟩)
    have HW := Lib.hid hw
    generalize cutN b 2 = V at *
    rcases hno with g | ⟨g, g2⟩
    · have HC2 : Hid (∀ A' m c' w1, (b.drop 2).length = m → Below W.heap.size W w1 → Calls Tryz.prog 90 #[.slice A' m c', .int .i64 1] w1 fun e w' => e = .returned (.tuple #[.int .i64 0, .slice none 0 0, .bool false]) ∧ Below W.heap.size W w') := Lib.hid (fun A' m c' w1 hl h1 => (cut6_none A' m c' 1 [] (by rw [List.length_drop] at hl; omega) (by omega) w1).mono fun e w' hh => by
        unfold CutPost at hh
        rw [if_pos (by rw [List.length_drop] at hl; omega)] at hh
        exact ⟨hh.2, h1.trans (hh.1.mono h1.size)⟩)
      clear hC hn x hb hw g
      go_enter Tryz.func98, Tryz.ntmps98
      go_wp2_with fail
      refine HC.out.mono ?_
      rintro e w1 ⟨⟨A1, n1, c1, rfl, k1, k2, k3, k4⟩, hb1⟩
      go_wp2_with fail
      refine (HC2.out _ _ _ _ k1 hb1).mono ?_
      rintro e w2 ⟨rfl, hb2⟩
      go_wp2_with fail
      go_ret2
      exact ReadPost.no _ _ _ HR.out (HX.out _ hb2).1 (HX.out _ hb2).2
    · have HC2 : Hid (∀ A' m c' w1, (b.drop 2).length = m → m ≤ c' → c' ≤ maxLen → Lies u8v w0 A' (b.drop 2) → Below W.heap.size W w1 → Calls Tryz.prog 90 #[.slice A' m c', .int .i64 1] w1 fun e w' => (∃ A' m c', e = .returned (.tuple #[.int .i64 ((cutN (b.drop 2) 1).toNat : Int), .slice A' m c', .bool true]) ∧ (m : Int) < ((cutN (b.drop 2) 1).toNat : Int)) ∧ Below W.heap.size W w') := Lib.hid (fun A' m c' w1 hl h3 h4 h5 h1 => (cut6_any A' m c' 1 (.inl rfl) (b.drop 2) hl h3 h4 (by rw [List.length_drop] at hl; omega) w1 (h5.below (hw.trans (h1.mono hw.size)) (Nat.le_refl _))).mono fun e w' hh => by
        unfold CutPost at hh
        rw [if_neg (by rw [List.length_drop] at hl; omega)] at hh
        obtain ⟨k1, A2, m2, c2, k2, k3, k4, k5, k6⟩ := hh
        exact ⟨⟨A2, m2, c2, k2, by rw [List.length_drop, List.length_drop] at k3; omega⟩, h1.trans (k1.mono h1.size)⟩)
      generalize cutN (b.drop 2) 1 = V2 at *
      clear hC hn x hb hw g2
      go_enter Tryz.func98, Tryz.ntmps98
      go_wp2_with fail
      refine HC.out.mono ?_
      rintro e w1 ⟨⟨A1, n1, c1, rfl, k1, k2, k3, k4⟩, hb1⟩
      go_wp2_with fail
      refine (HC2.out _ _ _ _ k1 k2 k3 k4 hb1).mono ?_
      rintro e w2 ⟨⟨A2, n2, c2, rfl, k5⟩, hb2⟩
      have k6 : ((V2.toNat : Int) > (n2 : Int)) := k5
      go_wp2_with fail
      go_ret2
      exact ReadPost.no _ _ _ HR.out (HX.out _ hb2).1 (HX.out _ hb2).2

set_option maxRecDepth 100000 in
set_option maxHeartbeats 400000 in
/-- The list's bytes are there. -/
theorem liBReadYes (b0 b1 m : Nat) (w0 W : World) (c0 : W.cell? ⟨b0, 0, none⟩ = some (.func (.func 48) #[] #[])) (c1 : W.cell? ⟨b1, 0, none⟩ = some (.func (.func 59) #[] #[])) (hw : Below w0.heap.size w0 W) (A : Option Addr) (n c : Nat) (b : List UInt8) (hn : b.length = n) (hnc : n ≤ c) (hcm : c ≤ maxLen) (hm : n ≤ 10000) (hb : Lies u8v w0 A b) (q : Nat) {S : Nat → Prop} (a : Ask) (h k : Option Addr × Nat × Nat) (x : AskAt W q S a h k)
    (h3 : 3 ≤ n) (h4 : (cutN (b.drop 2) 1).toNat ≤ n - 3) :
    Calls Tryz.prog 98 #[.slice A n c, .pointer (some ⟨q, 0, none⟩), .pointer (some ⟨b1, 0, none⟩), .pointer (some ⟨b0, 0, none⟩)] W (ReadPost w0 W q S (.bits m) b a) := by
  have hO := bitsOf_ok.ca
  have l0 := World.block_lt_of_cell? _ _ c0
  have l1 := World.block_lt_of_cell? _ _ c1
  have HC : Hid (Calls Tryz.prog 90 #[.slice A n c, .int .i64 2] W fun e w' => (∃ A' m c', e = .returned (.tuple #[.int .i64 ((cutN b 2).toNat : Int), .slice A' m c', .bool true]) ∧ (b.drop 2).length = m ∧ m ≤ c' ∧ c' ≤ maxLen ∧ Lies u8v w0 A' (b.drop 2)) ∧ Below W.heap.size W w') := Lib.hid ((cut6_any A n c 2 (.inr rfl) b hn hnc hcm (by omega) W (hb.below hw (Nat.le_refl _))).mono fun e w' hh => by
    unfold CutPost at hh
    rw [if_neg (by omega)] at hh
    obtain ⟨h1, A', m, c', h2, h3, h4, h5, h6⟩ := hh
    exact ⟨⟨A', m, c', h2, h3, h4, h5, h6 _ hb⟩, h1⟩)
  have HC2 : Hid (∀ A' m c' w1, (b.drop 2).length = m → m ≤ c' → c' ≤ maxLen → Lies u8v w0 A' (b.drop 2) → Below W.heap.size W w1 → Calls Tryz.prog 90 #[.slice A' m c', .int .i64 1] w1 fun e w' => (∃ A' m c', e = .returned (.tuple #[.int .i64 ((cutN (b.drop 2) 1).toNat : Int), .slice A' m c', .bool true]) ∧ ((b.drop 2).drop 1).length = m ∧ m ≤ c' ∧ c' ≤ maxLen ∧ Lies u8v w0 A' ((b.drop 2).drop 1)) ∧ Below W.heap.size W w') := Lib.hid (fun A' m c' w1 hl h3 h4 h5 h1 => (cut6_any A' m c' 1 (.inl rfl) (b.drop 2) hl h3 h4 (by rw [List.length_drop] at hl; omega) w1 (h5.below (hw.trans (h1.mono hw.size)) (Nat.le_refl _))).mono fun e w' hh => by
    unfold CutPost at hh
    rw [if_neg (by rw [List.length_drop] at hl; omega)] at hh
    obtain ⟨k1, A2, m2, c2, k2, k3, k4, k5, k6⟩ := hh
    exact ⟨⟨A2, m2, c2, k2, k3, k4, k5, k6 _ h5⟩, h1.trans (k1.mono h1.size)⟩)
  have hL3 : ((b.drop 2).drop 1).length = n - 3 := by rw [List.length_drop, List.length_drop]; omega
  have HR : Hid (PK.read b a (.bits m) = if Word.isBitsI (((b.drop 2).drop 1).take (cutN (b.drop 2) 1).toNat) ((cutN b 2).toNat : Nat) then some (((b.drop 2).drop 1).drop (cutN (b.drop 2) 1).toNat, { a with bits := Word.bitsOf (((b.drop 2).drop 1).take (cutN (b.drop 2) 1).toNat) (cutN b 2).toNat }) else none) := Lib.hid (by
    unfold PK.read
    dsimp only
    rw [if_neg (by omega), if_neg (by rw [List.length_drop]; omega), if_neg (by omega)])
  have hv1 := (cutN b 2).toNat_lt
  generalize (cutN b 2).toNat = N0 at *
  generalize (cutN (b.drop 2) 1).toNat = sz at *
  have hT : (((b.drop 2).drop 1).take sz).length = sz := by rw [List.length_take]; omega
  generalize ((b.drop 2).drop 1) = R at *
  have HT : Hid (∀ (A2 : Option Addr) (c2 : Nat) (X : World), n - 3 ≤ c2 → c2 ≤ maxLen → Lies u8v w0 A2 R → Below W.heap.size W X → Calls Tryz.prog 59 #[.slice A2 sz c2, .int .i64 (N0 : Int)] X (BitsPost X (R.take sz) (N0 : Int))) := Lib.hid (fun A2 c2 X hc2 hc3 hL hX => by
    have hL := (hL.take sz).below (hw.trans (hX.mono hw.size)) (Nat.le_refl _)
    generalize R.take sz = T at *
    exact bits_any A2 sz c2 T (N0 : Int) (by omega) hT (by omega) X hL)
  have HDR : Hid ((R.drop sz).length = n - 3 - sz) := Lib.hid (by rw [List.length_drop]; omega)
  generalize hTT : R.take sz = T at *
  clear hTT hb hn hw
  go_enter Tryz.func98, Tryz.ntmps98
  go_wp2_with fail
  refine HC.out.mono ?_
  rintro e w1 ⟨⟨A1, n1, c1', rfl, k1, k2, k3, k4⟩, hb1⟩
  go_wp2_with fail
  refine (HC2.out _ _ _ _ k1 k2 k3 k4 hb1).mono ?_
  rintro e w2 ⟨⟨A2, n2, c2, rfl, p1, p2, p3, p4⟩, hb2⟩
  have hn2 : n2 = n - 3 := by omega
  subst hn2
  have i1 : ¬ ((sz : Int) > ((n - 3 : Nat) : Int)) := by omega
  have i2 : (sz : Int) ≤ ((n - 3 : Nat) : Int) := by omega
  have i3 : (sz : Int) ≤ (c2 : Int) := by omega
  obtain ⟨Y, hY, hYL⟩ := slice_off (f := u8v) A2 (n - 3) c2 sz R p1 (by omega) p2
  have HYL := Lib.hid (hYL _ p4)
  have d0 := (hb2.cell (p := ⟨b0, 0, none⟩) l0).trans c0
  have d1 := (hb2.cell (p := ⟨b1, 0, none⟩) l1).trans c1
  have e1 : w2.drew.cell? ⟨b1, 0, none⟩ = some (.func (.func 59) #[] #[]) := d1
  have HU := Lib.hid (HT.out A2 c2 w2.drew p2 p3 p4 (drewN_below hb2 1))
  have HX2 := Lib.hid (fun (w' : World) (hb : Below w2.drew.heap.size w2.drew w') => (show Below W.heap.size W w' from (drewN_below hb2 1).trans (hb.mono hb2.size)))
  have HLT := Lib.hid hb2.size
  clear hYL HC HC2 HT k1 k2 k3 k4 p1 p4 d1
  go_wp2_with fail
  go_region_held3 (fun X => X.cell? ⟨b1, 0, none⟩ = some (.func (.func 59) #[] #[])) (first | with_reducible assumption | fail) (first | (go_at_call 59; (with_reducible refine HU.out.mono ?_); rintro e w3 ⟨A3, n3, c3, rfl, g1, g2, g3, g4, g5, g6⟩; have f1 := cell_later g5 e1) | fail)
  have hb3 := HX2.out _ g5
  have x3 := x.below hb3
  have d3 := (hb3.cell (p := ⟨b0, 0, none⟩) l0).trans c0
  have hc := x3.cell (i := 5) (v := .slice k.1 k.2.1 k.2.2) rfl
  have hf := x3.free 5
  have hql := x.lt
  have HS := Lib.hid (x3.setB (Word.ansBitsI T (N0 : Nat)) A3 n3 c3 g1 g2 g3 g4 (fun b o s e h0 => by have h1 := g6 b o s e h0; have h2 := HLT.out; have h3 : w2.drew.heap.size = w2.heap.size := rfl; exact fun hs => absurd (x.sl _ hs) (by omega)))
  have HB := Lib.hid ((But.of_below hb3 (Nat.le_refl _) [q]).trans (But.one w3 q 5 (.slice A3 n3 c3)))
  clear g1 g2 g3 g4 g5 g6 x3 hb3
  cases hmay : Word.isBitsI T (N0 : Nat) with
  | false =>
    have HM := Lib.hid hmay
    try rw [hmay]
    clear hmay
    go_wp2_with (go_at_call 48; refine (hO _ _).mono ?_; rintro e w' ⟨rfl, rfl⟩)
    go_ret2
    exact ReadPost.no _ _ _ (by rw [HR.out, HM.out]; rfl) HS.out HB.out
  | true =>
    have HM := Lib.hid hmay
    have HA : Hid (Word.ansBitsI T (N0 : Nat) = Word.bitsOf T N0) := Lib.hid (by have := hmay; unfold Word.ansBitsI; rw [this, Int.toNat_natCast]; rfl)
    try rw [hmay]
    clear hmay
    go_wp2_with (go_at_call 48; refine (hO _ _).mono ?_; rintro e w' ⟨rfl, rfl⟩)
    go_ret2
    rw [HA.out] at HS
    exact ReadPost.yes (by rw [HR.out, HM.out]; rfl) HS.out HB.out HDR.out (by omega) (by omega) HYL.out

theorem liBRead (b0 b1 m : Nat) (w0 W : World) (c0 : W.cell? ⟨b0, 0, none⟩ = some (.func (.func 48) #[] #[])) (c1 : W.cell? ⟨b1, 0, none⟩ = some (.func (.func 59) #[] #[])) (hw : Below w0.heap.size w0 W) (A : Option Addr) (n c : Nat) (b : List UInt8) (hn : b.length = n) (hnc : n ≤ c) (hcm : c ≤ maxLen) (hm : n ≤ 10000) (hb : Lies u8v w0 A b) (q : Nat) {S : Nat → Prop} (a : Ask) (h k : Option Addr × Nat × Nat) (x : AskAt W q S a h k) :
    Calls Tryz.prog 98 #[.slice A n c, .pointer (some ⟨q, 0, none⟩), .pointer (some ⟨b1, 0, none⟩), .pointer (some ⟨b0, 0, none⟩)] W (ReadPost w0 W q S (.bits m) b a) := by
  by_cases g : 3 ≤ n ∧ (cutN (b.drop 2) 1).toNat ≤ n - 3
  · exact liBReadYes b0 b1 m w0 W c0 c1 hw A n c b hn hnc hcm hm hb q a h k x g.1 g.2
  · refine liBReadNo b0 b1 m w0 W hw A n c b hn hnc hcm hm hb q a h k x ?_
    rcases Nat.lt_or_ge n 2 with h1 | h1
    · exact .inl h1
    · rcases Nat.lt_or_ge n 3 with h2 | h2
      · exact .inr (.inl (by omega))
      · exact .inr (.inr ⟨h2, by rcases Nat.lt_or_ge (n - 3) (cutN (b.drop 2) 1).toNat with h3 | h3; exact h3; exact absurd ⟨h2, h3⟩ g⟩)

set_option maxRecDepth 100000 in
set_option maxHeartbeats 400000 in
theorem liWDrop (b0 : Nat) (W : World) (c0 : W.cell? ⟨b0, 0, none⟩ = some (.func (.func 53) #[] #[])) (q : Nat) {S : Nat → Prop} (a : Ask) (h k : Option Addr × Nat × Nat) (x : AskAt W q S a h k) :
    Calls Tryz.prog 129 #[.pointer (some ⟨q, 0, none⟩), .pointer (some ⟨b0, 0, none⟩)] W fun e w' => (∃ v, e = .returned v) ∧ ∃ h' k', AskAt w' q S { a with words := [] } h' k' ∧ But [q] W w' := by
  have hO := wordsOf_ok.ca
  have hc := x.cell (i := 4) (v := .slice h.1 h.2.1 h.2.2) rfl
  have hf := x.free 4
  have HS := Lib.hid (x.setW [] none 0 0 rfl (Nat.le_refl _) (Nat.zero_le _) (Lies.nil _ _) (fun _ _ _ e => by cases e))
  have HB := Lib.hid (But.one W q 4 (.slice none 0 0))
  clear x
  go_enter Tryz.func129, Tryz.ntmps129
  go_wp2_with (go_at_call 53; refine (hO _ _).mono ?_; rintro e w' ⟨rfl, rfl⟩)
  refine bodyPost_end (results_none rfl _ _ _) rfl ?_
  exact ⟨⟨_, rfl⟩, _, _, HS.out, HB.out⟩

set_option maxRecDepth 100000 in
set_option maxHeartbeats 400000 in
/-- The list is not there, or its bytes are too few. -/
theorem liWReadNo (b0 b1 m : Nat) (w0 W : World) (hw : Below w0.heap.size w0 W) (A : Option Addr) (n c : Nat) (b : List UInt8) (hn : b.length = n) (hnc : n ≤ c) (hcm : c ≤ maxLen) (hm : n ≤ 10000) (hb : Lies u8v w0 A b) (q : Nat) {S : Nat → Prop} (a : Ask) (h k : Option Addr × Nat × Nat) (x : AskAt W q S a h k)
    (hno : n < 2 ∨ n = 2 ∨ 3 ≤ n ∧ n - 3 < (cutN (b.drop 2) 1).toNat) :
    Calls Tryz.prog 128 #[.slice A n c, .pointer (some ⟨q, 0, none⟩), .pointer (some ⟨b1, 0, none⟩), .pointer (some ⟨b0, 0, none⟩)] W (ReadPost w0 W q S (.words m) b a) := by
  have hC := cut6_any A n c 2 (.inr rfl) b hn hnc hcm (by omega) W (hb.below hw (Nat.le_refl _))
  have HR : Hid (PK.read b a (.words m) = none) := Lib.hid (by
    unfold PK.read
    dsimp only
    rcases hno with g | g | ⟨g, g2⟩
    · rw [if_pos (by omega)]
    · rw [if_neg (by omega), if_pos (by rw [List.length_drop]; omega)]
    · rw [if_neg (by omega), if_neg (by rw [List.length_drop]; omega), if_pos (by rw [List.length_drop, List.length_drop]; omega)])
  have HX := Lib.hid (fun (w' : World) (hb : Below W.heap.size W w') => (⟨x.below hb, But.of_below hb (Nat.le_refl _) [q]⟩ : AskAt w' q S a h k ∧ But [q] W w'))
  rcases hno with hlt | hno
  · have HC : Hid (Calls Tryz.prog 90 #[.slice A n c, .int .i64 2] W fun e w' => e = .returned (.tuple #[.int .i64 0, .slice none 0 0, .bool false]) ∧ Below W.heap.size W w') := Lib.hid (hC.mono fun e w' hh => by
      unfold CutPost at hh
      rw [if_pos hlt] at hh
      exact ⟨hh.2, hh.1⟩)
    have HC2 : Hid (∀ w1, Below W.heap.size W w1 → Calls Tryz.prog 90 #[.slice none 0 0, .int .i64 1] w1 fun e w' => e = .returned (.tuple #[.int .i64 0, .slice none 0 0, .bool false]) ∧ Below W.heap.size W w') := Lib.hid (fun w1 h1 => (cut6_none none 0 0 1 [] (by omega) (by omega) w1).mono fun e w' hh => by
      unfold CutPost at hh
      rw [if_pos (by omega)] at hh
      exact ⟨hh.2, h1.trans (hh.1.mono h1.size)⟩)
    clear hC hn x
    go_enter Tryz.func128, Tryz.ntmps128
    go_wp2_with fail
    refine HC.out.mono ?_
    rintro e w1 ⟨rfl, hb1⟩
    go_wp2_with fail
    refine (HC2.out _ hb1).mono ?_
    rintro e w2 ⟨rfl, hb2⟩
    go_wp2_with fail
    go_ret2
    exact ReadPost.no _ _ _ HR.out (HX.out _ hb2).1 (HX.out _ hb2).2
  · have h2 : ¬ n < 2 := by omega
    have HC : Hid (Calls Tryz.prog 90 #[.slice A n c, .int .i64 2] W fun e w' => (∃ A' m c', e = .returned (.tuple #[.int .i64 ((cutN b 2).toNat : Int), .slice A' m c', .bool true]) ∧ (b.drop 2).length = m ∧ m ≤ c' ∧ c' ≤ maxLen ∧ Lies u8v w0 A' (b.drop 2)) ∧ Below W.heap.size W w') := Lib.hid (hC.mono fun e w' hh => by
      unfold CutPost at hh
      rw [if_neg h2] at hh
      obtain ⟨h1, A', m, c', h2, h3, h4, h5, h6⟩ := hh
      exact ⟨⟨A', m, c', h2, h3, h4, h5, h6 _ hb⟩, h1⟩)
    have HW := Lib.hid hw
    generalize cutN b 2 = V at *
    rcases hno with g | ⟨g, g2⟩
    · have HC2 : Hid (∀ A' m c' w1, (b.drop 2).length = m → Below W.heap.size W w1 → Calls Tryz.prog 90 #[.slice A' m c', .int .i64 1] w1 fun e w' => e = .returned (.tuple #[.int .i64 0, .slice none 0 0, .bool false]) ∧ Below W.heap.size W w') := Lib.hid (fun A' m c' w1 hl h1 => (cut6_none A' m c' 1 [] (by rw [List.length_drop] at hl; omega) (by omega) w1).mono fun e w' hh => by
        unfold CutPost at hh
        rw [if_pos (by rw [List.length_drop] at hl; omega)] at hh
        exact ⟨hh.2, h1.trans (hh.1.mono h1.size)⟩)
      clear hC hn x hb hw g
      go_enter Tryz.func128, Tryz.ntmps128
      go_wp2_with fail
      refine HC.out.mono ?_
      rintro e w1 ⟨⟨A1, n1, c1, rfl, k1, k2, k3, k4⟩, hb1⟩
      go_wp2_with fail
      refine (HC2.out _ _ _ _ k1 hb1).mono ?_
      rintro e w2 ⟨rfl, hb2⟩
      go_wp2_with fail
      go_ret2
      exact ReadPost.no _ _ _ HR.out (HX.out _ hb2).1 (HX.out _ hb2).2
    · have HC2 : Hid (∀ A' m c' w1, (b.drop 2).length = m → m ≤ c' → c' ≤ maxLen → Lies u8v w0 A' (b.drop 2) → Below W.heap.size W w1 → Calls Tryz.prog 90 #[.slice A' m c', .int .i64 1] w1 fun e w' => (∃ A' m c', e = .returned (.tuple #[.int .i64 ((cutN (b.drop 2) 1).toNat : Int), .slice A' m c', .bool true]) ∧ (m : Int) < ((cutN (b.drop 2) 1).toNat : Int)) ∧ Below W.heap.size W w') := Lib.hid (fun A' m c' w1 hl h3 h4 h5 h1 => (cut6_any A' m c' 1 (.inl rfl) (b.drop 2) hl h3 h4 (by rw [List.length_drop] at hl; omega) w1 (h5.below (hw.trans (h1.mono hw.size)) (Nat.le_refl _))).mono fun e w' hh => by
        unfold CutPost at hh
        rw [if_neg (by rw [List.length_drop] at hl; omega)] at hh
        obtain ⟨k1, A2, m2, c2, k2, k3, k4, k5, k6⟩ := hh
        exact ⟨⟨A2, m2, c2, k2, by rw [List.length_drop, List.length_drop] at k3; omega⟩, h1.trans (k1.mono h1.size)⟩)
      generalize cutN (b.drop 2) 1 = V2 at *
      clear hC hn x hb hw g2
      go_enter Tryz.func128, Tryz.ntmps128
      go_wp2_with fail
      refine HC.out.mono ?_
      rintro e w1 ⟨⟨A1, n1, c1, rfl, k1, k2, k3, k4⟩, hb1⟩
      go_wp2_with fail
      refine (HC2.out _ _ _ _ k1 k2 k3 k4 hb1).mono ?_
      rintro e w2 ⟨⟨A2, n2, c2, rfl, k5⟩, hb2⟩
      have k6 : ((V2.toNat : Int) > (n2 : Int)) := k5
      go_wp2_with fail
      go_ret2
      exact ReadPost.no _ _ _ HR.out (HX.out _ hb2).1 (HX.out _ hb2).2

set_option maxRecDepth 100000 in
set_option maxHeartbeats 400000 in
/-- The list's bytes are there. -/
theorem liWReadYes (b0 b1 m : Nat) (w0 W : World) (c0 : W.cell? ⟨b0, 0, none⟩ = some (.func (.func 53) #[] #[])) (c1 : W.cell? ⟨b1, 0, none⟩ = some (.func (.func 105) #[] #[])) (hw : Below w0.heap.size w0 W) (A : Option Addr) (n c : Nat) (b : List UInt8) (hn : b.length = n) (hnc : n ≤ c) (hcm : c ≤ maxLen) (hm : n ≤ 10000) (hb : Lies u8v w0 A b) (q : Nat) {S : Nat → Prop} (a : Ask) (h k : Option Addr × Nat × Nat) (x : AskAt W q S a h k)
    (h3 : 3 ≤ n) (h4 : (cutN (b.drop 2) 1).toNat ≤ n - 3) :
    Calls Tryz.prog 128 #[.slice A n c, .pointer (some ⟨q, 0, none⟩), .pointer (some ⟨b1, 0, none⟩), .pointer (some ⟨b0, 0, none⟩)] W (ReadPost w0 W q S (.words m) b a) := by
  have hO := wordsOf_ok.ca
  have l0 := World.block_lt_of_cell? _ _ c0
  have l1 := World.block_lt_of_cell? _ _ c1
  have HC : Hid (Calls Tryz.prog 90 #[.slice A n c, .int .i64 2] W fun e w' => (∃ A' m c', e = .returned (.tuple #[.int .i64 ((cutN b 2).toNat : Int), .slice A' m c', .bool true]) ∧ (b.drop 2).length = m ∧ m ≤ c' ∧ c' ≤ maxLen ∧ Lies u8v w0 A' (b.drop 2)) ∧ Below W.heap.size W w') := Lib.hid ((cut6_any A n c 2 (.inr rfl) b hn hnc hcm (by omega) W (hb.below hw (Nat.le_refl _))).mono fun e w' hh => by
    unfold CutPost at hh
    rw [if_neg (by omega)] at hh
    obtain ⟨h1, A', m, c', h2, h3, h4, h5, h6⟩ := hh
    exact ⟨⟨A', m, c', h2, h3, h4, h5, h6 _ hb⟩, h1⟩)
  have HC2 : Hid (∀ A' m c' w1, (b.drop 2).length = m → m ≤ c' → c' ≤ maxLen → Lies u8v w0 A' (b.drop 2) → Below W.heap.size W w1 → Calls Tryz.prog 90 #[.slice A' m c', .int .i64 1] w1 fun e w' => (∃ A' m c', e = .returned (.tuple #[.int .i64 ((cutN (b.drop 2) 1).toNat : Int), .slice A' m c', .bool true]) ∧ ((b.drop 2).drop 1).length = m ∧ m ≤ c' ∧ c' ≤ maxLen ∧ Lies u8v w0 A' ((b.drop 2).drop 1)) ∧ Below W.heap.size W w') := Lib.hid (fun A' m c' w1 hl h3 h4 h5 h1 => (cut6_any A' m c' 1 (.inl rfl) (b.drop 2) hl h3 h4 (by rw [List.length_drop] at hl; omega) w1 (h5.below (hw.trans (h1.mono hw.size)) (Nat.le_refl _))).mono fun e w' hh => by
    unfold CutPost at hh
    rw [if_neg (by rw [List.length_drop] at hl; omega)] at hh
    obtain ⟨k1, A2, m2, c2, k2, k3, k4, k5, k6⟩ := hh
    exact ⟨⟨A2, m2, c2, k2, k3, k4, k5, k6 _ h5⟩, h1.trans (k1.mono h1.size)⟩)
  have hL3 : ((b.drop 2).drop 1).length = n - 3 := by rw [List.length_drop, List.length_drop]; omega
  have HR : Hid (PK.read b a (.words m) = if (Word.isWords (((b.drop 2).drop 1).take (cutN (b.drop 2) 1).toNat) && decide ((Word.words (((b.drop 2).drop 1).take (cutN (b.drop 2) 1).toNat)).length = (cutN b 2).toNat)) then some (((b.drop 2).drop 1).drop (cutN (b.drop 2) 1).toNat, { a with words := Word.words (((b.drop 2).drop 1).take (cutN (b.drop 2) 1).toNat) }) else none) := Lib.hid (by
    unfold PK.read
    dsimp only
    rw [if_neg (by omega), if_neg (by rw [List.length_drop]; omega), if_neg (by omega)])
  have hv1 := (cutN b 2).toNat_lt
  generalize (cutN b 2).toNat = N0 at *
  generalize (cutN (b.drop 2) 1).toNat = sz at *
  have hT : (((b.drop 2).drop 1).take sz).length = sz := by rw [List.length_take]; omega
  generalize ((b.drop 2).drop 1) = R at *
  have HT : Hid (∀ (A2 : Option Addr) (c2 : Nat) (X : World), n - 3 ≤ c2 → c2 ≤ maxLen → Lies u8v w0 A2 R → Below W.heap.size W X → Calls Tryz.prog 105 #[.slice A2 sz c2, .int .i64 (N0 : Int)] X (WordsInPost X (R.take sz) N0)) := Lib.hid (fun A2 c2 X hc2 hc3 hL hX => by
    have hL := (hL.take sz).below (hw.trans (hX.mono hw.size)) (Nat.le_refl _)
    generalize R.take sz = T at *
    exact wordsIn_any A2 sz c2 N0 T hT (by omega) (by omega) X hL)
  have HDR : Hid ((R.drop sz).length = n - 3 - sz) := Lib.hid (by rw [List.length_drop]; omega)
  generalize hTT : R.take sz = T at *
  clear hTT hb hn hw
  go_enter Tryz.func128, Tryz.ntmps128
  go_wp2_with fail
  refine HC.out.mono ?_
  rintro e w1 ⟨⟨A1, n1, c1', rfl, k1, k2, k3, k4⟩, hb1⟩
  go_wp2_with fail
  refine (HC2.out _ _ _ _ k1 k2 k3 k4 hb1).mono ?_
  rintro e w2 ⟨⟨A2, n2, c2, rfl, p1, p2, p3, p4⟩, hb2⟩
  have hn2 : n2 = n - 3 := by omega
  subst hn2
  have i1 : ¬ ((sz : Int) > ((n - 3 : Nat) : Int)) := by omega
  have i2 : (sz : Int) ≤ ((n - 3 : Nat) : Int) := by omega
  have i3 : (sz : Int) ≤ (c2 : Int) := by omega
  obtain ⟨Y, hY, hYL⟩ := slice_off (f := u8v) A2 (n - 3) c2 sz R p1 (by omega) p2
  have HYL := Lib.hid (hYL _ p4)
  have d0 := (hb2.cell (p := ⟨b0, 0, none⟩) l0).trans c0
  have d1 := (hb2.cell (p := ⟨b1, 0, none⟩) l1).trans c1
  have e1 : w2.drew.cell? ⟨b1, 0, none⟩ = some (.func (.func 105) #[] #[]) := d1
  have HU := Lib.hid (HT.out A2 c2 w2.drew p2 p3 p4 (drewN_below hb2 1))
  have HX2 := Lib.hid (fun (w' : World) (hb : Below w2.drew.heap.size w2.drew w') => (show Below W.heap.size W w' from (drewN_below hb2 1).trans (hb.mono hb2.size)))
  have HLT := Lib.hid hb2.size
  clear hYL HC HC2 HT k1 k2 k3 k4 p1 p4 d1
  go_wp2_with fail
  go_region_held3 (fun X => X.cell? ⟨b1, 0, none⟩ = some (.func (.func 105) #[] #[])) (first | with_reducible assumption | fail) (first | (go_at_call 105; (with_reducible refine HU.out.mono ?_); rintro e w3 ⟨A3, n3, c3, rfl, g1, g2, g3, g4, g5, g6⟩; have f1 := cell_later g5 e1) | fail)
  have hb3 := HX2.out _ g5
  have x3 := x.below hb3
  have d3 := (hb3.cell (p := ⟨b0, 0, none⟩) l0).trans c0
  have hc := x3.cell (i := 4) (v := .slice h.1 h.2.1 h.2.2) rfl
  have hf := x3.free 4
  have hql := x.lt
  have HS := Lib.hid (x3.setW (Word.ansWords T) A3 n3 c3 g1 g2 g3 g4 (fun b o s e h0 => by have h1 := g6 b o s e h0; have h2 := HLT.out; have h3 : w2.drew.heap.size = w2.heap.size := rfl; exact fun hs => absurd (x.sl _ hs) (by omega)))
  have HB := Lib.hid ((But.of_below hb3 (Nat.le_refl _) [q]).trans (But.one w3 q 4 (.slice A3 n3 c3)))
  clear g1 g2 g3 g4 g5 g6 x3 hb3
  cases hmay : (Word.isWords T && decide ((Word.words T).length = N0)) with
  | false =>
    have HM := Lib.hid hmay
    try rw [hmay]
    clear hmay
    go_wp2_with (go_at_call 53; refine (hO _ _).mono ?_; rintro e w' ⟨rfl, rfl⟩)
    go_ret2
    exact ReadPost.no _ _ _ (by rw [HR.out, HM.out]; rfl) HS.out HB.out
  | true =>
    have HM := Lib.hid hmay
    have HA : Hid (Word.ansWords T = Word.words T) := Lib.hid (ansWords_yes (by have := hmay; rw [Bool.and_eq_true] at this; exact this.1))
    try rw [hmay]
    clear hmay
    go_wp2_with (go_at_call 53; refine (hO _ _).mono ?_; rintro e w' ⟨rfl, rfl⟩)
    go_ret2
    rw [HA.out] at HS
    exact ReadPost.yes (by rw [HR.out, HM.out]; rfl) HS.out HB.out HDR.out (by omega) (by omega) HYL.out

theorem liWRead (b0 b1 m : Nat) (w0 W : World) (c0 : W.cell? ⟨b0, 0, none⟩ = some (.func (.func 53) #[] #[])) (c1 : W.cell? ⟨b1, 0, none⟩ = some (.func (.func 105) #[] #[])) (hw : Below w0.heap.size w0 W) (A : Option Addr) (n c : Nat) (b : List UInt8) (hn : b.length = n) (hnc : n ≤ c) (hcm : c ≤ maxLen) (hm : n ≤ 10000) (hb : Lies u8v w0 A b) (q : Nat) {S : Nat → Prop} (a : Ask) (h k : Option Addr × Nat × Nat) (x : AskAt W q S a h k) :
    Calls Tryz.prog 128 #[.slice A n c, .pointer (some ⟨q, 0, none⟩), .pointer (some ⟨b1, 0, none⟩), .pointer (some ⟨b0, 0, none⟩)] W (ReadPost w0 W q S (.words m) b a) := by
  by_cases g : 3 ≤ n ∧ (cutN (b.drop 2) 1).toNat ≤ n - 3
  · exact liWReadYes b0 b1 m w0 W c0 c1 hw A n c b hn hnc hcm hm hb q a h k x g.1 g.2
  · refine liWReadNo b0 b1 m w0 W hw A n c b hn hnc hcm hm hb q a h k x ?_
    rcases Nat.lt_or_ge n 2 with h1 | h1
    · exact .inl h1
    · rcases Nat.lt_or_ge n 3 with h2 | h2
      · exact .inr (.inl (by omega))
      · exact .inr (.inr ⟨h2, by rcases Nat.lt_or_ge (n - 3) (cutN (b.drop 2) 1).toNat with h3 | h3; exact h3; exact absurd ⟨h2, h3⟩ g⟩)
end Go.Proofs.YtcbkbdoaaaofjaaGreat
