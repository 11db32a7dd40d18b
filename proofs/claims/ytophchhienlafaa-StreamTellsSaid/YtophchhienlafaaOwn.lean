/-
  The law's own 'own': frames as the document's frames.
-/
import Derived.Test.YtophchhienlafaaRtake
namespace Go.Proofs.Ytophchhienlafaa
open Go.RowKit

/-- What 'own' leaves. -/
def OwnPost (F : Nat → Prop) (w : World) (l : List Fr) (e : Ending) (w' : World) : Prop :=
  ∃ A n c vs, e = .returned (.slice A n c) ∧ l.length = n ∧ w'.ownsRow w.heap.size 55 3 (.slice A n c) n vs ∧ FrsIn (fun b => F b ∧ b < w.heap.size) w' vs l ∧ Below w.heap.size w w'

theorem FrsIn.take {F : Nat → Prop} {w : World} : ∀ {l : List Fr} {vs : List Value}, FrsIn F w vs l → ∀ j (hj : j < l.length), ∃ h, FrOk F w l[j] h ∧ vs[j * 3]? = some (u16v l[j].t) ∧ vs[j * 3 + 1]? = some (u8v l[j].u) ∧ vs[j * 3 + 2]? = some (.slice h.1 h.2.1 h.2.2) := fun k j hj => k.get j hj

set_option maxRecDepth 100000 in
set_option maxHeartbeats 1000000 in
theorem own5_any {F : Nat → Prop} (A : Option Addr) (n c : Nat) (l : List Fr) (hn : l.length = n) (hm : n ≤ 60000) (w : World) (h : FrsBy F w A l) :
    Calls Try.prog 11 #[.slice A n c] w (OwnPost F w l) := by
  subst hn
  have h := h.lt
  go_enter Try.func11, Try.ntmps11
  go_wp2
  go_loopw [3, 4] (fun o i wr => ∃ (j : Nat) (Ao : Option Addr) (co : Nat) (vs : List Value), j ≤ l.length ∧ i = .int .i64 j ∧ o = .slice Ao j co ∧ wr.ownsRow w.heap.size 55 3 (.slice Ao j co) j vs ∧ FrsIn (fun b => F b ∧ b < w.heap.size) wr vs (l.take j) ∧ Below w.heap.size w wr) (fun _ i _ => l.length - (intOf i).toNat)
  case atStart => exact ⟨0, none, 0, [], Nat.zero_le _, rfl, rfl, World.ownsRow_nil _ _ _ _, by simp [FrsIn], Below.refl _ _⟩
  case round =>
    obtain ⟨j, Ao, co, vs, hj, rfl, rfl, hown, hfr, hbe⟩ := hrel
    by_cases hlt : j < l.length
    · obtain ⟨b1, o1, g1, rfl, hx1, hc10, hc11, hc12⟩ := (h.below hbe (Nat.le_refl _)).get j hlt
      have hx0 := hx1
      have hltw1 : b1 < wr.heap.size := World.block_lt_of_cell? _ _ hc10
      have i1 : (j : Int) < (l.length : Int) := by omega
      have HT : Hid (l.take (j + 1) = l.take j ++ [l[j]]) := Lib.hid (List.take_succ_eq_append_getElem hlt)
      obtain ⟨x, hx⟩ : ∃ x, l[j] = x := ⟨_, rfl⟩
      rw [hx] at hc10 hc11 hx0 HT
      clear hx1 hx
      go_wp2_with (at_builtin; go_must (refine wpList_append_cells kitF _ rfl (.tmp 11) (.tmp 16) rfl w.heap.size _ j vs rfl (own_but hown ((But.refl [] wr).alloc (.cells #[u16v x.t, u8v x.u, .slice g1.1 g1.2.1 g1.2.2] 55)) (by simp)) (some ⟨wr.heap.size, 0, none⟩) 1 1 (frCells x g1) rfl rfl (lies_at _ _ _ _ _ (by simp [frCells]) rfl) (fr_one _ _) (by omega) (by unfold maxLen; omega) (by have := hbe.size; simp; omega) ?_; intro A6 c6 w6 hown6 hgr6 hb6 hat6))
      have hwr : Below w.heap.size wr w6 := (((Below.refl _ wr).alloc (Nat.le_refl _) (.cells #[u16v x.t, u8v x.u, .slice g1.1 g1.2.1 g1.2.2] 55)).mono hbe.size).trans hb6
      go_roundw
      case rel =>
        refine ⟨j + 1, A6, c6, _, by omega, by go_num, rfl, hown6, ?_, hbe.trans hwr⟩
        rw [HT.out]
        exact (hfr.append (FrsIn.one hx0)).move fun b hb _ => ⟨hwr.block b hb.2, hb⟩
      case measure => simp [intOf]; omega
    · obtain rfl : j = l.length := by omega
      go_wp2
      go_ret
      rw [List.take_length] at hfr
      exact ⟨Ao, _, co, vs, rfl, rfl, hown, hfr, hbe⟩
end Go.Proofs.Ytophchhienlafaa
