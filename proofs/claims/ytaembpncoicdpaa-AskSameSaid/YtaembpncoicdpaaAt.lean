
/-
  The landed ask: a request in a variable; its parts (the mathematics); what is asked of the four function values of a part.
-/
import Derived.Test.YtaembpncoicdpaaCt
import Derived.Test.YtaembpncoicdpaaNu
namespace Go.Proofs.Ytaembpncoicdpaa
open Go.RowKit Go.Shelf

theorem AskIn.but {S : List Nat} {w w' : World} {a : Ask} {h k : Option Addr × Nat × Nat} (x : AskIn w a h k) (hb : But S w w') (fh : ∀ b o s, h.1 = some ⟨b, o, s⟩ → 0 < h.2.1 → b ∉ S) (fk : ∀ b o s, k.1 = some ⟨b, o, s⟩ → 0 < k.2.1 → b ∉ S) : AskIn w' a h k :=
  ⟨x.hn, x.hc, x.hm, x.hl.but hb (fun b o s e h0 => fh b o s e (by rw [← x.hn]; exact h0)), x.kn, x.kc, x.km, x.kl.but hb (fun b o s e h0 => fk b o s e (by rw [← x.kn]; exact h0))⟩

/-- A request lies in the variable of block q; its lists lie in no block of S, as q is. -/
structure AskAt (w : World) (q : Nat) (S : Nat → Prop) (a : Ask) (h k : Option Addr × Nat × Nat) : Prop where
  row : w.heap[q]? = some (.cells (askCells a h k) 26 (0, 0))
  ins : AskIn w a h k
  sq : S q
  sl : ∀ b, S b → b < w.heap.size
  fh : ∀ b o s, h.1 = some ⟨b, o, s⟩ → 0 < h.2.1 → ¬ S b
  fk : ∀ b o s, k.1 = some ⟨b, o, s⟩ → 0 < k.2.1 → ¬ S b

section
variable {w w' : World} {q : Nat} {S : Nat → Prop} {a : Ask} {h k : Option Addr × Nat × Nat}
theorem AskAt.lt (x : AskAt w q S a h k) : q < w.heap.size := row_lt x.row
theorem AskAt.below (x : AskAt w q S a h k) (hb : Below w.heap.size w w') : AskAt w' q S a h k := ⟨row_later x.row hb, x.ins.below hb, x.sq, fun b hs => Nat.lt_of_lt_of_le (x.sl b hs) hb.size, x.fh, x.fk⟩
theorem AskAt.cell (x : AskAt w q S a h k) {i : Nat} {v : Value} (e : (askCells a h k)[i]? = some v) : w.cell? ⟨q, i, none⟩ = some v := by
  rw [cell_of_row _ _ _ _ _ _ x.row]
  exact e
theorem AskAt.free (x : AskAt w q S a h k) (i : Nat) : w.frozen? ⟨q, i, none⟩ = false := by
  simp [World.frozen?, x.row]
theorem But.one (w : World) (q i : Nat) (v : Value) : But [q] w (w.setCell ⟨q, i, none⟩ v) := (But.refl _ _).setCell (p := ⟨q, i, none⟩) (.inl (List.mem_singleton.2 rfl)) v
/-- A store into the variable. -/
theorem AskAt.store (x : AskAt w q S a h k) {i : Nat} {v : Value} {a' : Ask} {h' k' : Option Addr × Nat × Nat} (e : (askCells a h k).setIfInBounds i v = askCells a' h' k') (hi : AskIn w a' h' k')
    (fh : ∀ b o s, h'.1 = some ⟨b, o, s⟩ → 0 < h'.2.1 → ¬ S b) (fk : ∀ b o s, k'.1 = some ⟨b, o, s⟩ → 0 < k'.2.1 → ¬ S b) : AskAt (w.setCell ⟨q, i, none⟩ v) q S a' h' k' :=
  ⟨by rw [row_set x.row, e], hi.but (But.one w q i v) (fun b o s e1 h0 hm => fh b o s e1 h0 (List.mem_singleton.1 hm ▸ x.sq)) (fun b o s e1 h0 hm => fk b o s e1 h0 (List.mem_singleton.1 hm ▸ x.sq)), x.sq, fun b hs => by rw [show (w.setCell ⟨q, i, none⟩ v).heap.size = w.heap.size by simp [World.setCell]]; exact x.sl b hs, fh, fk⟩
theorem AskIn.of (x : AskIn w a h k) {a' : Ask} (e1 : a'.words = a.words) (e2 : a'.bits = a.bits) : AskIn w a' h k :=
  ⟨by rw [e1]; exact x.hn, x.hc, x.hm, by rw [e1]; exact x.hl, by rw [e2]; exact x.kn, x.kc, x.km, by rw [e2]; exact x.kl⟩
theorem AskAt.setI (x : AskAt w q S a h k) (f : IF) (n : Int) : AskAt (w.setCell ⟨q, f.ix, none⟩ (.int .i64 n)) q S (f.set a n) h k :=
  x.store (by cases f <;> rfl) (x.ins.of (by cases f <;> rfl) (by cases f <;> rfl)) x.fh x.fk
theorem AskAt.setU (x : AskAt w q S a h k) (f : UF) (n : UInt16) : AskAt (w.setCell ⟨q, f.ix, none⟩ (u16v n)) q S (f.set a n) h k :=
  x.store (by cases f <;> rfl) (x.ins.of (by cases f <;> rfl) (by cases f <;> rfl)) x.fh x.fk
theorem AskAt.setW (x : AskAt w q S a h k) (l : List UInt16) (A : Option Addr) (n c : Nat) (h1 : l.length = n) (h2 : n ≤ c) (h3 : c ≤ maxLen) (h4 : Lies u16v w A l) (h5 : ∀ b o s, A = some ⟨b, o, s⟩ → 0 < n → ¬ S b) :
    AskAt (w.setCell ⟨q, 4, none⟩ (.slice A n c)) q S { a with words := l } (A, n, c) k :=
  x.store rfl ⟨h1, h2, h3, h4, x.ins.kn, x.ins.kc, x.ins.km, x.ins.kl⟩ h5 x.fk
theorem AskAt.setB (x : AskAt w q S a h k) (l : List Bool) (A : Option Addr) (n c : Nat) (h1 : l.length = n) (h2 : n ≤ c) (h3 : c ≤ maxLen) (h4 : Lies bitv w A l) (h5 : ∀ b o s, A = some ⟨b, o, s⟩ → 0 < n → ¬ S b) :
    AskAt (w.setCell ⟨q, 5, none⟩ (.slice A n c)) q S { a with bits := l } h (A, n, c) :=
  x.store rfl ⟨x.ins.hn, x.ins.hc, x.ins.hm, x.ins.hl, h1, h2, h3, h4⟩ x.fh h5
end

/-- The parts of requests. -/
inductive PK
  | num (f : IF) (sz : Nat) (lo hi : Int)
  | mask (f : UF)
  | bit
  | word
  | bits (m : Nat)
  | words (m : Nat)
namespace PK
def fits (a : Ask) : PK → Bool
  | num f _ lo hi => decide (lo ≤ f.get a) && decide (f.get a ≤ hi)
  | mask _ => true
  | bit => a.bits.length == 1
  | word => a.words.length == 1
  | bits m => decide (1 ≤ a.bits.length) && decide (a.bits.length ≤ m)
  | words m => decide (1 ≤ a.words.length) && decide (a.words.length ≤ m)
def drop (a : Ask) : PK → Ask
  | num f _ _ _ => f.set a 0
  | mask f => f.set a 0
  | bit => { a with bits := [] }
  | word => { a with words := [] }
  | bits _ => { a with bits := [] }
  | words _ => { a with words := [] }
def out (a : Ask) : PK → List UInt8
  | num f sz _ _ => low (UInt16.ofNat (f.get a).toNat) sz
  | mask f => low (f.get a) 2
  | bit => low (if a.bits.getD 0 false then 65280 else 0) 2
  | word => low (a.words.getD 0 0) 2
  | bits _ => low (UInt16.ofNat a.bits.length) 2 ++ (low (UInt16.ofNat ((a.bits.length + 7) / 8)) 1 ++ Word.pack a.bits)
  | words _ => low (UInt16.ofNat a.words.length) 2 ++ (low (UInt16.ofNat (2 * a.words.length)) 1 ++ Word.bytes a.words)
def read (b : List UInt8) (a : Ask) : PK → Option (List UInt8 × Ask)
  | num f sz _ _ => if b.length < sz then none else some (b.drop sz, f.set a ((cutN b sz).toNat : Int))
  | mask f => if b.length < 2 then none else some (b.drop 2, f.set a (cutN b 2))
  | bit => if b.length < 2 then none else if cutN b 2 = 65280 then some (b.drop 2, { a with bits := [true] }) else if cutN b 2 = 0 then some (b.drop 2, { a with bits := [false] }) else none
  | word => if b.length < 2 then none else some (b.drop 2, { a with words := [cutN b 2] })
  | bits _ => if b.length < 2 then none else if (b.drop 2).length < 1 then none else if ((b.drop 2).drop 1).length < (cutN (b.drop 2) 1).toNat then none else
      if Word.isBitsI (((b.drop 2).drop 1).take (cutN (b.drop 2) 1).toNat) ((cutN b 2).toNat : Nat) then some (((b.drop 2).drop 1).drop (cutN (b.drop 2) 1).toNat, { a with bits := Word.bitsOf (((b.drop 2).drop 1).take (cutN (b.drop 2) 1).toNat) (cutN b 2).toNat }) else none
  | words _ => if b.length < 2 then none else if (b.drop 2).length < 1 then none else if ((b.drop 2).drop 1).length < (cutN (b.drop 2) 1).toNat then none else
      if Word.isWords (((b.drop 2).drop 1).take (cutN (b.drop 2) 1).toNat) && decide ((Word.words (((b.drop 2).drop 1).take (cutN (b.drop 2) 1).toNat)).length = (cutN b 2).toNat) then some (((b.drop 2).drop 1).drop (cutN (b.drop 2) 1).toNat, { a with words := Word.words (((b.drop 2).drop 1).take (cutN (b.drop 2) 1).toNat) }) else none
/-- Bounds that the program's parts keep. -/
def Fine : PK → Prop
  | num _ sz lo hi => (sz = 1 ∨ sz = 2) ∧ 0 ≤ lo ∧ hi ≤ 65535
  | bits m => m ≤ 1968
  | words m => m ≤ 123
  | _ => True
end PK

/-- What a function value that reads leaves. -/
def ReadPost (w0 W : World) (q : Nat) (S : Nat → Prop) (p : PK) (b : List UInt8) (a : Ask) (e : Ending) (w' : World) : Prop :=
  ∃ A' n' c' ok a' h' k', e = .returned (.tuple #[.slice A' n' c', .bool ok]) ∧ AskAt w' q S a' h' k' ∧ But [q] W w' ∧
    (match p.read b a with
     | none => ok = false
     | some (r, a2) => ok = true ∧ a' = a2 ∧ r.length = n' ∧ n' ≤ c' ∧ c' ≤ maxLen ∧ Lies u8v w0 A' r)
theorem ReadPost.no {w0 W w' : World} {q : Nat} {S : Nat → Prop} {p : PK} {b : List UInt8} {a a' : Ask} {h' k' : Option Addr × Nat × Nat} (A' : Option Addr) (n' c' : Nat) (hr : p.read b a = none) (hA : AskAt w' q S a' h' k') (hb : But [q] W w') : ReadPost w0 W q S p b a (.returned (.tuple #[.slice A' n' c', .bool false])) w' :=
  ⟨A', n', c', false, a', h', k', rfl, hA, hb, by rw [hr]⟩
theorem ReadPost.yes {w0 W w' : World} {q : Nat} {S : Nat → Prop} {p : PK} {b r : List UInt8} {a a' : Ask} {h' k' : Option Addr × Nat × Nat} {A' : Option Addr} {n' c' : Nat} (hr : p.read b a = some (r, a')) (hA : AskAt w' q S a' h' k') (hb : But [q] W w') (h1 : r.length = n') (h2 : n' ≤ c') (h3 : c' ≤ maxLen) (h4 : Lies u8v w0 A' r) : ReadPost w0 W q S p b a (.returned (.tuple #[.slice A' n' c', .bool true])) w' :=
  ⟨A', n', c', true, a', h', k', rfl, hA, hb, by rw [hr]; exact ⟨rfl, rfl, h1, h2, h3, h4⟩⟩

/-- What is asked of the four function values of a part, in every world in which what lay in w0 lies unturned. -/
structure PartOK (w0 : World) (p : PK) (g1 g2 g3 g4 : Nat) (l1 l2 l3 l4 : Array Value) : Prop where
  fine : p.Fine
  e1 : Enters Try.prog g1
  e2 : Enters Try.prog g2
  e3 : Enters Try.prog g3
  e4 : Enters Try.prog g4
  c1 : ∀ W, Below w0.heap.size w0 W → ∀ a h k, AskIn W a h k → Calls Try.prog g1 (#[askV a h k] ++ l1) W fun e w' => e = .returned (.bool (p.fits a)) ∧ Below W.heap.size W w'
  c2 : ∀ Wa W, Below w0.heap.size w0 Wa → Below Wa.heap.size Wa W → ∀ a h k, AskIn Wa a h k → p.fits a = true → ∀ (B : Nat) (v : Value) (n : Nat) (xs : List UInt8), W.ownsRow B 5 1 v n (xs.map u8v) → Wa.heap.size ≤ B → B ≤ W.heap.size → n ≤ 10000 →
    Calls Try.prog g2 (#[v, askV a h k] ++ l2) W fun e w' => ∃ A m c, e = .returned (.slice A m c) ∧ w'.ownsRow B 5 1 (.slice A m c) m ((xs ++ p.out a).map u8v) ∧ Below B W w'
  c3 : ∀ W, Below w0.heap.size w0 W → ∀ (A : Option Addr) (n c : Nat) (b : List UInt8), b.length = n → n ≤ c → c ≤ maxLen → n ≤ 10000 → Lies u8v w0 A b → ∀ q S a h k, w0.heap.size ≤ q → AskAt W q S a h k →
    Calls Try.prog g3 (#[.slice A n c, .pointer (some ⟨q, 0, none⟩)] ++ l3) W (ReadPost w0 W q S p b a)
  c4 : ∀ W, Below w0.heap.size w0 W → ∀ q S a h k, w0.heap.size ≤ q → AskAt W q S a h k →
    Calls Try.prog g4 (#[.pointer (some ⟨q, 0, none⟩)] ++ l4) W fun e w' => (∃ v, e = .returned v) ∧ ∃ h' k', AskAt w' q S (p.drop a) h' k' ∧ But [q] W w'
end Go.Proofs.Ytaembpncoicdpaa
