/-
  The landed stream: Take.
-/
import Derived.Test.YtophchhienlafaaStCut
namespace Go.Proofs.Ytophchhienlafaa
open Go.RowKit

theorem StRow.at_ {F : Nat → Prop} {w : World} {g : Nat} {r : List UInt8} {bad : Bool} (h : StRow w g r bad F) : ∃ S, StAt w g r bad S ∧ ∀ k ∈ S, k = g ∨ F k := by
  obtain ⟨A, n, c, h1, h2, h3, h4, h5, h6⟩ := h
  by_cases h0 : 0 < n
  · obtain ⟨b, off, rfl, hlt, _⟩ := h5.at_ (by omega)
    refine ⟨[g, b], ⟨by simp, ?_, _, n, c, h1, h2, h3, h4, h5, ?_⟩, ?_⟩
    · intro k hk
      rcases (by simpa using hk : k = g ∨ k = b) with rfl | rfl
      · exact row_lt h1
      · exact hlt
    · intro b' o s e _
      cases e
      simp
    · intro k hk
      rcases (by simpa using hk : k = g ∨ k = b) with rfl | rfl
      · exact .inl rfl
      · exact .inr (h6 k off none rfl h0)
  · refine ⟨[g], ⟨by simp, ?_, A, n, c, h1, h2, h3, h4, h5, fun b o s _ h => absurd h h0⟩, ?_⟩
    · intro k hk
      obtain rfl : k = g := by simpa using hk
      exact row_lt h1
    · intro k hk
      exact .inl (by simpa using hk)

theorem TakePost.mk {w w1 w' : World} {g : Nat} {S : List Nat} {b c : List UInt8} {A : Option Addr} {n k B : Nat} {r : List UInt8} {x : Int} (hS : g ∈ S) (hg : g < w.heap.size) (h1 : w.heap.size ≤ w1.heap.size) (hB : w1.heap.size ≤ B) (hx : x = if (Stm.cut (b ++ c)).2.2 then 2 else 0)
    (hf : FrsOf (fun k => w1.heap.size ≤ k ∧ k < B) w' A n k (Stm.cut (b ++ c)).1) (hr : r = (Stm.cut (b ++ c)).2.1) (hrow : StRow w' g r (Stm.cut (b ++ c)).2.2 (fun k => B ≤ k)) (hb : But [g] w w') : TakePost w g S b c (.returned (.tuple #[.slice A n k, .int .i64 x])) w' := by
  subst hr
  obtain ⟨S', hS', hk⟩ := hrow.at_
  refine ⟨A, n, k, S', by rw [hx], hf.move fun j hj _ => ⟨rfl, by omega, ?_⟩, hS', ?_, hb.mono fun j hj => ?_⟩
  · intro hm
    rcases hk j hm with rfl | h
    · omega
    · omega
  · intro j hm
    rcases hk j hm with rfl | h
    · exact .inl hS
    · exact .inr (by omega)
  · obtain rfl : j = g := by simpa using hj
    exact hS

set_option maxRecDepth 100000 in
set_option maxHeartbeats 1000000 in
theorem take5_any (g : Nat) (S : List Nat) (A : Option Addr) (n k : Nat) (b c : List UInt8) (hn : c.length = n) (_ : n ≤ k) (hm : b.length + n ≤ 60000) (w : World) (hs : StAt w g b false S) (hc : Lies u8v w A c) (_ : ∀ b o s, A = some ⟨b, o, s⟩ → 0 < n → b ∉ S) :
    Calls Try.prog 8 #[.pointer (some ⟨g, 0, none⟩), .slice A n k] w (TakePost w g S b c) := by
  obtain ⟨hgS, _, hst⟩ := hs
  have HS := Lib.hid hst
  obtain ⟨A0, n0, c0, h1, _⟩ := hst
  obtain ⟨hr0, hr1⟩ := row_two' h1
  have hlt := row_lt h1
  have hm' : (b ++ c).length ≤ 60000 := by rw [List.length_append]; omega
  clear h1
  go_enter Try.func8, Try.ntmps8
  go_wp2_with fail
  refine (add_any g b c false A n k hn (by omega) _ hc HS.out).mono ?_
  rintro e w1 ⟨rfl, hrow1, hb1⟩
  have hz1 := hb1.size
  clear hr0 hr1
  go_wp2_with fail
  refine (cut5_any g (b ++ c) false hm' _ hrow1).mono ?_
  rintro e w2 ⟨A2, n2, k2, B, r, rfl, hB, hf2, hr2, hrow2, hb2⟩
  have hb12 := hb1.trans hb2
  clear hrow1 hb1 hb2
  by_cases hbad : (Stm.cut (b ++ c)).2.2 = true
  · have HB := Lib.hid hbad
    rw [hbad]
    have hx : (if true = true then (2 : Int) else 3) = 2 := rfl
    rw [hx]
    clear hbad hx
    go_wp2_with fail
    refine (drop_any g r false _ hrow2).mono ?_
    rintro e w3 ⟨rfl, hrow3, hb3⟩
    have hb13 := hb12.trans hb3
    have hf3 := hf2.but hb3 (fun k hk hm => by
      have : k = g := by simpa using hm
      omega)
    obtain ⟨A3, n3, c3, h1, h2, h3, h4, h5, h6⟩ := hrow3 (fun _ => False)
    obtain ⟨hr0, hr1, hz0, hz1'⟩ := row_two h1
    have hlt3 := row_lt h1
    have H1 := Lib.hid h1
    clear h1
    go_wp2_with fail
    go_ret2
    have hset : But [g] w3 (w3.setCell ⟨g, 1, none⟩ (.bool true)) := (But.refl [g] w3).setCell (.inl (by simp)) _
    refine TakePost.mk (r := []) hgS hlt hz1 hB (by rw [HB.out]; rfl) (hf3.but hset (fun k hk hm => by
      have : k = g := by simpa using hm
      omega)) (Stm.cut_bad_left _ HB.out).symm ?_ (hb13.trans hset)
    rw [HB.out]
    obtain rfl : n3 = 0 := by simpa using h2.symm
    exact ⟨A3, 0, c3, by simp [World.setCell, Array.getElem?_modify, H1.out], rfl, h3, h4, Lies.nil _ _, fun b o s _ h => absurd h (by omega)⟩
  · have hbad' : (Stm.cut (b ++ c)).2.2 = false := by simpa using hbad
    have HB := Lib.hid hbad'
    rw [hbad']
    have hx : (if false = true then (2 : Int) else 3) = 3 := rfl
    rw [hx]
    clear hbad hbad' hx
    go_wp2_with fail
    go_ret2
    refine TakePost.mk (r := r) hgS hlt hz1 hB (by rw [HB.out]; rfl) hf2 (hr2 HB.out) ?_ hb12
    rw [HB.out]
    exact hrow2
#print axioms take5_any
/-- Take of a literal. -/
theorem take5_lit (g : Nat) (S : List Nat) (n : Nat) (b c : List UInt8) (cs : Array Value) (hcs : cs.toList = c.map u8v) (hn : c.length = n) (hm : b.length + n ≤ 60000) (w : World) (hs : StAt w g b false S) :
    Calls Try.prog 8 #[.pointer (some ⟨g, 0, none⟩), .slice (some ⟨w.heap.size, 0, none⟩) n n] (w.alloc (.cells cs 5)) (TakePost w g S b c) := by
  have hb : Below w.heap.size w (w.alloc (.cells cs 5)) := (Below.refl _ _).alloc (Nat.le_refl _) _
  refine (take5_any g S _ n n b c hn (Nat.le_refl _) hm _ (hs.below hb) (lies_new (f := u8v) w cs _ c hcs) ?_).mono ?_
  · intro b' o s e _ hm
    cases e
    have := hs.own _ hm
    omega
  · rintro e w' ⟨A, m, k, S', h1, h2, h3, h4, h5⟩
    exact ⟨A, m, k, S', h1, h2.move fun b hf _ => ⟨rfl, by have := hb.size; omega, hf.2⟩, h3, fun k hk => by
      rcases h4 k hk with h | h
      · exact .inl h
      · exact .inr (by have := hb.size; omega), (But.of_below hb (Nat.le_refl _) S).trans h5⟩
end Go.Proofs.Ytophchhienlafaa
