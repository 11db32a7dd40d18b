/-
  Lists of frames: what lies in memory, and what a stream does with bytes (the mathematics).
-/
import Derived.Test.YtophchhienlafaaCell
import Derived.Test.YtophchhienlafaaMbM
namespace Go.Proofs.Ytophchhienlafaa
open Go.RowKit

structure Fr where
  t : UInt16
  u : UInt8
  p : List UInt8
  deriving DecidableEq

abbrev Hd := Option Addr × Nat × Nat
def frCells (x : Fr) (h : Hd) : List Value := [u16v x.t, u8v x.u, .slice h.1 h.2.1 h.2.2]
/-- A frame x, whose Pdu lies as h tells, in a block of F. -/
def FrOk (F : Nat → Prop) (w : World) (x : Fr) (h : Hd) : Prop := x.p.length = h.2.1 ∧ h.2.1 ≤ h.2.2 ∧ h.2.2 ≤ maxLen ∧ Lies u8v w h.1 x.p ∧ ∀ b o s, h.1 = some ⟨b, o, s⟩ → 0 < h.2.1 → F b
def FrsIn (F : Nat → Prop) (w : World) : List Value → List Fr → Prop
  | vs, [] => vs = []
  | vs, x :: l => ∃ h vs', vs = frCells x h ++ vs' ∧ FrOk F w x h ∧ FrsIn F w vs' l
section
variable {F G : Nat → Prop}
theorem FrOk.lt {w : World} {x : Fr} {h : Hd} (k : FrOk F w x h) : ∀ b o s, h.1 = some ⟨b, o, s⟩ → 0 < h.2.1 → b < w.heap.size := by
  intro b o s e h0
  obtain ⟨b', o', e', hc⟩ := k.2.2.2.1 0 (by rw [k.1]; exact h0)
  rw [e] at e'
  cases e'
  exact World.block_lt_of_cell? w _ hc
theorem FrOk.move {w w' : World} {x : Fr} {h : Hd} (k : FrOk F w x h) (hF : ∀ b, F b → b < w.heap.size → w'.heap[b]? = w.heap[b]? ∧ G b) : FrOk G w' x h := by
  refine ⟨k.1, k.2.1, k.2.2.1, ?_, fun b o s e h0 => (hF b (k.2.2.2.2 b o s e h0) (k.lt b o s e h0)).2⟩
  intro j hj
  obtain ⟨b, off, e, hc⟩ := k.2.2.2.1 j hj
  have h0 : 0 < h.2.1 := by have := k.1; omega
  exact ⟨b, off, e, (World.cell?_of_block (w := w) (a := ⟨b, off + j, none⟩) (hF b (k.2.2.2.2 b off none e h0) (World.block_lt_of_cell? w _ hc)).1).trans hc⟩
theorem FrsIn.move {w w' : World} (hF : ∀ b, F b → b < w.heap.size → w'.heap[b]? = w.heap[b]? ∧ G b) : ∀ {l : List Fr} {vs : List Value}, FrsIn F w vs l → FrsIn G w' vs l
  | [], _, k => k
  | _ :: _, _, ⟨h, vs', e, k1, k2⟩ => ⟨h, vs', e, k1.move hF, FrsIn.move hF k2⟩
theorem FrsIn.keep {w w' : World} (hk : ∀ (x : Fr) (h : Hd), FrOk F w x h → FrOk G w' x h) : ∀ {l : List Fr} {vs : List Value}, FrsIn F w vs l → FrsIn G w' vs l
  | [], _, k => k
  | _ :: _, _, ⟨h, vs', e, k1, k2⟩ => ⟨h, vs', e, hk _ _ k1, FrsIn.keep hk k2⟩
theorem FrsIn.below {w w' : World} {B : Nat} {l : List Fr} {vs : List Value} (k : FrsIn F w vs l) (hb : Below B w w') (hB : w.heap.size ≤ B) : FrsIn F w' vs l := k.move fun b hf hl => ⟨hb.block b (by omega), hf⟩
theorem FrsIn.length {w : World} : ∀ {l : List Fr} {vs : List Value}, FrsIn F w vs l → vs.length = l.length * 3
  | [], _, k => by rw [show _ = [] from k]; rfl
  | _ :: _, _, ⟨_, _, e, _, k2⟩ => by rw [e, List.length_append, k2.length]; simp [frCells]; omega
theorem FrsIn.append {w : World} : ∀ {l m : List Fr} {vs us : List Value}, FrsIn F w vs l → FrsIn F w us m → FrsIn F w (vs ++ us) (l ++ m)
  | [], _, _, _, k, k' => by rw [show _ = [] from k]; exact k'
  | _ :: _, _, _, us, ⟨h, vs', e, k1, k2⟩, k' => ⟨h, vs' ++ us, by rw [e, List.append_assoc], k1, k2.append k'⟩
theorem FrsIn.one {w : World} {x : Fr} {h : Hd} (k : FrOk F w x h) : FrsIn F w (frCells x h) [x] := ⟨h, [], by simp, k, rfl⟩
theorem FrsIn.get {w : World} : ∀ {l : List Fr} {vs : List Value}, FrsIn F w vs l → ∀ j (hj : j < l.length), ∃ h, FrOk F w l[j] h ∧ vs[j * 3]? = some (u16v l[j].t) ∧ vs[j * 3 + 1]? = some (u8v l[j].u) ∧ vs[j * 3 + 2]? = some (.slice h.1 h.2.1 h.2.2)
  | [], _, _, j, hj => absurd hj (by simp)
  | x :: l, _, ⟨h, vs', e, k1, k2⟩, 0, _ => ⟨h, k1, by rw [e]; rfl, by rw [e]; rfl, by rw [e]; rfl⟩
  | x :: l, _, ⟨h, vs', e, k1, k2⟩, j + 1, hj => by
    obtain ⟨h', g1, g2, g3, g4⟩ := k2.get j (by simpa using hj)
    have e1 : (j + 1) * 3 = 3 + j * 3 := by omega
    have hl : (frCells x h).length = 3 := rfl
    refine ⟨h', g1, ?_, ?_, ?_⟩
    · rw [e, e1, List.getElem?_append_right (by omega), hl, Nat.add_sub_cancel_left]; exact g2
    · rw [e, e1, Nat.add_assoc, List.getElem?_append_right (by omega), hl, Nat.add_sub_cancel_left]; exact g3
    · rw [e, e1, Nat.add_assoc, List.getElem?_append_right (by omega), hl, Nat.add_sub_cancel_left]; exact g4
end
theorem fr_one (x : Fr) (h : Hd) : ∀ u ∈ frCells x h, u.oneCell' = true := by
  intro u hu
  simp only [frCells, List.mem_cons, List.not_mem_nil, or_false] at hu
  rcases hu with rfl | rfl | rfl <;> rfl

/-- Behind A lie the frames l, their Pdus in blocks of F. -/
def FrsBy (F : Nat → Prop) (w : World) (A : Option Addr) (l : List Fr) : Prop := ∃ vs, CellsAt w A vs ∧ FrsIn F w vs l
abbrev FrsAt (w : World) (A : Option Addr) (l : List Fr) : Prop := FrsBy (fun _ => True) w A l
theorem FrsBy.below {F : Nat → Prop} {w w' : World} {B : Nat} {A : Option Addr} {l : List Fr} (k : FrsBy F w A l) (hb : Below B w w') (hB : w.heap.size ≤ B) : FrsBy F w' A l := by
  obtain ⟨vs, h1, h2⟩ := k
  exact ⟨vs, h1.below hb hB, h2.below hb hB⟩
theorem FrsBy.lt {F : Nat → Prop} {w : World} {A : Option Addr} {l : List Fr} (k : FrsBy F w A l) : FrsBy (fun b => F b ∧ b < w.heap.size) w A l := by
  obtain ⟨vs, h1, h2⟩ := k
  exact ⟨vs, h1, h2.move fun _ hf hl => ⟨rfl, hf, hl⟩⟩
theorem FrsBy.nil (F : Nat → Prop) (w : World) (A : Option Addr) : FrsBy F w A [] := ⟨[], Lies.nil _ _, rfl⟩
theorem FrsBy.get {F : Nat → Prop} {w : World} {A : Option Addr} {l : List Fr} (k : FrsBy F w A l) (j : Nat) (hj : j < l.length) : ∃ b off h, A = some ⟨b, off, none⟩ ∧ FrOk F w l[j] h ∧ w.cell? ⟨b, off + j * 3, none⟩ = some (u16v l[j].t) ∧ w.cell? ⟨b, off + j * 3 + 1, none⟩ = some (u8v l[j].u) ∧ w.cell? ⟨b, off + j * 3 + 2, none⟩ = some (.slice h.1 h.2.1 h.2.2) := by
  obtain ⟨vs, h1, h2⟩ := k
  obtain ⟨h, g1, g2, g3, g4⟩ := h2.get j hj
  have hl := h2.length
  obtain ⟨b, off, rfl, _, hc⟩ := h1.at_ (by omega)
  have cell : ∀ i v, vs[i]? = some v → w.cell? ⟨b, off + i, none⟩ = some v := by
    intro i v hv
    obtain ⟨hi, rfl⟩ := List.getElem?_eq_some_iff.1 hv
    exact hc i hi
  exact ⟨b, off, h, rfl, g1, cell _ _ g2, cell _ _ g3, cell _ _ g4⟩

namespace Stm
/-- What bytes have: their frames, what is left, and whether it is broken; by so many steps. -/
def cutF : Nat → List UInt8 → List Fr × List UInt8 × Bool
  | 0, b => ([], b, false)
  | f + 1, b =>
    if Mb.codeB b = 0 then
      let r := cutF f (b.drop (Mb.size b))
      (⟨Mb.tid b, Mb.unit b, Mb.pdu b⟩ :: r.1, r.2)
    else if Mb.codeB b = 2 then ([], [], true) else ([], b, false)
def cut (b : List UInt8) : List Fr × List UInt8 × Bool := cutF (b.length + 1) b

theorem drop_less {b : List UInt8} (h : Mb.codeB b = 0) : (b.drop (Mb.size b)).length + 8 ≤ b.length := by
  have := Mb.again_size h
  rw [List.length_drop]
  omega
theorem cutF_more : ∀ (f g : Nat) (b : List UInt8), b.length < f → b.length < g → cutF f b = cutF g b
  | 0, _, _, h, _ => absurd h (Nat.not_lt_zero _)
  | _ + 1, 0, _, _, h => absurd h (Nat.not_lt_zero _)
  | f + 1, g + 1, b, hf, hg => by
    unfold cutF
    by_cases h : Mb.codeB b = 0
    · have := drop_less h
      rw [if_pos h, if_pos h, cutF_more f g _ (by omega) (by omega)]
    · rw [if_neg h, if_neg h]
theorem cut_frame {b : List UInt8} (h : Mb.codeB b = 0) : cut b = (⟨Mb.tid b, Mb.unit b, Mb.pdu b⟩ :: (cut (b.drop (Mb.size b))).1, (cut (b.drop (Mb.size b))).2) := by
  have hd := drop_less h
  unfold cut
  rw [show cutF (b.length + 1) b = (⟨Mb.tid b, Mb.unit b, Mb.pdu b⟩ :: (cutF b.length (b.drop (Mb.size b))).1, (cutF b.length (b.drop (Mb.size b))).2) from by
    conv => lhs; unfold cutF
    rw [if_pos h]]
  rw [cutF_more b.length ((b.drop (Mb.size b)).length + 1) _ (by omega) (by omega)]
theorem cut_bad {b : List UInt8} (h : Mb.codeB b = 2) : cut b = ([], [], true) := by
  unfold cut cutF
  rw [if_neg (by omega), if_pos h]
theorem cut_short {b : List UInt8} (h0 : Mb.codeB b ≠ 0) (h : Mb.codeB b ≠ 2) : cut b = ([], b, false) := by
  unfold cut cutF
  rw [if_neg h0, if_neg h]
end Stm
end Go.Proofs.Ytophchhienlafaa
