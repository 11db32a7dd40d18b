
/-
  Requests: text of the document's layer 6, walked.
-/
import Derived.Test.YtaembpncoicdpaaAkp
import Derived.Test.YtaembpncoicdpaaR2
import Derived.Test.YtaembpncoicdpaaAp
import Derived.Deep.RegionHeld3
import Derived.Deep.DrawnRows
namespace Go.Proofs.Ytaembpncoicdpaa
open Go.RowKit

attribute [local go_sem ↓] Go.wp_at_zero Go.wp_at_succ

namespace Ak
def b1 (n : Nat) : UInt8 := UInt8.ofNat n
def head (a : Ask) : List UInt8 := b1 a.code.toNat :: two a.addr
def text (a : Ask) : List UInt8 :=
  if a.code = 1 ∨ a.code = 2 ∨ a.code = 3 ∨ a.code = 4 then head a ++ two a.count
  else if a.code = 5 then head a ++ (if a.bits.getD 0 false then [255, 0] else [0, 0])
  else if a.code = 6 then head a ++ Word.bytes a.words
  else if a.code = 15 then head a ++ two a.bits.length ++ [b1 (Word.pack a.bits).length] ++ Word.pack a.bits
  else if a.code = 16 then head a ++ two a.words.length ++ [b1 (Word.bytes a.words).length] ++ Word.bytes a.words
  else if a.code = 22 then head a ++ two a.and_.toNat ++ two a.or_.toNat
  else if a.code = 23 then head a ++ two a.count ++ two a.to ++ two a.words.length ++ [b1 (Word.bytes a.words).length] ++ Word.bytes a.words
  else [43, 14, b1 a.count.toNat, b1 a.addr.toNat]
end Ak
theorem b1_map (n : Nat) (h : n < 256) : [Value.int .u8 (n : Int)] = [Ak.b1 n].map u8v := by
  simp only [List.map_cons, List.map_nil, Ak.b1, u8v, UInt8.toNat_ofNat']
  rw [Nat.mod_eq_of_lt (show n < 2 ^ 8 by omega)]
theorem own_grown {w w' : World} {B e n : Nat} {A : Option Addr} {c : Nat} {xs : List Value} {B2 n2 c2 : Nat} {A2 : Option Addr} {ys : List Value} (h : w.ownsRow B e 1 (.slice A n c) n xs) (hg : w.grownBy w' (Value.slice A2 n2 c2).ownBlock) (hy : w.ownsRow B2 e 1 (.slice A2 n2 c2) n2 ys) (hlt : ∀ b o s, A2 = some ⟨b, o, s⟩ → b < B) : w'.ownsRow B e 1 (.slice A n c) n xs := by
  refine h.kept hg ?_
  rcases h.2 with ⟨h1, _⟩ | ⟨g, cap, cur, h1, hb, _⟩
  · left; rw [h1]; rfl
  · right
    rw [h1]
    rcases A2 with _ | ⟨b, o, s⟩
    · simp [Value.ownBlock]
    · have := hlt b o s rfl
      simp only [Value.ownBlock]
      intro e
      simp at e
      omega
theorem own_lt {w : World} {B e n c : Nat} {A : Option Addr} {xs : List Value} (h : w.ownsRow B e 1 (.slice A n c) n xs) : ∀ b o s, A = some ⟨b, o, s⟩ → b < w.heap.size := by
  intro b o s e
  subst e
  exact (h.lt b rfl).2

/-- What text leaves. -/
def TextPost (w : World) (a : Ask) (e : Ending) (w' : World) : Prop :=
  ∃ A n c, e = .returned (.slice A n c) ∧ (Ak.text a).length = n ∧ w'.ownsRow w.heap.size 5 1 (.slice A n c) n ((Ak.text a).map u8v) ∧ Below w.heap.size w w'
theorem TextPost.mk (w W0 w' : World) (a : Ask) (A : Option Addr) (n c : Nat) (l : List UInt8) (hbw : Below w.heap.size w W0) (ht : Ak.text a = l) (hn : l.length = n) (hown : w'.ownsRow W0.heap.size 5 1 (.slice A n c) n (l.map u8v)) (hb : Below W0.heap.size W0 w') : TextPost w a (.returned (.slice A n c)) w' := by
  subst ht
  exact ⟨A, n, c, rfl, hn, own_lower hown hbw.size, hbw.trans (hb.mono hbw.size)⟩
end Go.Proofs.Ytaembpncoicdpaa
