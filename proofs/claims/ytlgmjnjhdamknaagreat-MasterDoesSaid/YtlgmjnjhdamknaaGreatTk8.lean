
/- A part of the proof of the law MasterDoes. -/
import Derived.Test.YtlgmjnjhdamknaaGreatMem
import Derived.Test.YtlgmjnjhdamknaaGreatCm8
import Derived.Test.YtlgmjnjhdamknaaGreatNr8
import Derived.Lib.MinMax
import Derived.Deep.RegionLaw
import Derived.Test.YtlgmjnjhdamknaaGreatQt8
import Derived.Test.YtlgmjnjhdamknaaGreatSt8
import Derived.Test.YtlgmjnjhdamknaaGreatBy7
namespace Go.Proofs.YtlgmjnjhdamknaaGreat
open Go.RowKit

section
variable {P : Program} {t e : TypeId} {z : Value} {by_ : Nat} {α : Type} {f : α → Value}
theorem run_append_mine (K : EK P t e z by_) (hf : ∀ x, (f x).oneCell' = true) (w : World) (ty : TypeId) (A0 : Option Addr) (n c0 : Nat) (xs : List α) (hown : w.ownsRow 0 e 1 (.slice A0 n c0) n (xs.map f))
    (A : Option Addr) (m c : Nat) (ys : List α) (hm : ys.length = m) (hy : Lies f w A ys) (h47 : (n + m) * by_ ≤ 140737488355328) (h48 : n + m ≤ maxLen) :
    ∃ A' c' w', (Builtin.append_ #[t, t] ty #[.slice A0 n c0, .slice A m c]).run P w = .ok (.slice A' (n + m) c') w' ∧ w'.ownsRow 0 e 1 (.slice A' (n + m) c') (n + m) ((xs ++ ys).map f) ∧ w.grownBy w' (Value.slice A0 n c0).ownBlock ∧ (∀ g, (Value.slice A' (n + m) c').ownBlock = some g → (Value.slice A0 n c0).ownBlock = some g ∨ w.heap.size ≤ g) := by
  obtain ⟨A', c', w', hrun, h2, h3, h4⟩ := run_append_lies K hf w ty 0 _ n xs hown A m c ys hm hy h47 h48 (Nat.zero_le _)
  refine ⟨A', c', w', hrun, h2, h3, fun g hg => ?_⟩
  rcases hown.2 with ⟨h0, hn0⟩ | ⟨g0, cap, cur, h0, hbg, hg0, hnc, hcm, hcs, htake⟩
  · right
    obtain rfl := hn0
    have hxs : xs = [] := List.eq_nil_of_length_eq_zero (by have := hown.1; simpa using this)
    subst hxs
    obtain ⟨A2, c2, w2, hrun2, k2, -, -⟩ := run_append_lies K hf w ty w.heap.size (.slice A0 0 c0) 0 ([] : List α) (by rw [h0]; exact World.ownsRow_nil _ _ _ _) A m c ys hm hy h47 h48 (zq _)
    rw [hrun2] at hrun
    injection hrun with hv _
    rw [← hv] at hg
    exact (k2.lt g hg).1
  · rcases A with _ | ad
    · left
      have hys : ys = [] := by
        rcases ys with _ | ⟨y, r⟩
        · rfl
        · obtain ⟨_, _, h, _⟩ := hy 0 (by simp)
          cases h
      subst hys
      obtain rfl : m = 0 := by simpa using hm.symm
      rw [run_append_nothing K w ty 0 _ n _ hown c] at hrun
      injection hrun with hv _
      rw [← hv] at hg
      exact hg
    · obtain ⟨i, hi, hz, hs, hb⟩ := info_parts K.hi
      have hnews : ∀ j u, (ys.map f)[j]? = some u → w.cell? (ad.add j) = some u := by
        intro j u hu
        have hj : j < ys.length := by
          rcases Nat.lt_or_ge j ys.length with h | h
          · exact h
          · rw [List.getElem?_map, List.getElem?_eq_none h] at hu; cases hu
        obtain ⟨b, off, h, _⟩ := hy j hj
        injection h with h
        subst h
        exact hy.cells_add j u hu
      have hlen : (ys.map f).length = m * i.size := by rw [List.length_map, hm, hs, Nat.mul_one]
      have hone : ∀ u ∈ ys.map f, u.oneCell' = true := by intro u hu; obtain ⟨x, _, rfl⟩ := List.mem_map.1 hu; exact hf x
      have hsz : i.size = 1 := hs
      cases h0
      by_cases hroom : n + m ≤ c0
      · left
        have hr := run_append_room (P := P) w t ty e i K.ht hi g0 n c0 cur hg0 ad m c (ys.map f) hlen hnews hone hroom (by rw [hlen, hsz, hcs]; omega)
        rw [hr] at hrun
        injection hrun with hv _
        rw [← hv] at hg
        exact hg
      · right
        have holds : ∀ j u, (xs.map f)[j]? = some u → w.cell? ((⟨g0, 0, none⟩ : Addr).add j) = some u := hown.cells (g := g0) rfl
        have hr := run_append_grow (P := P) w t ty e i z K.ht hi hz ⟨g0, 0, none⟩ n c0 (xs.map f) (by rw [hown.1, hsz]) holds ad m c (ys.map f) hlen hnews (by omega) (by simp only [maxLen] at h48; omega) (by rw [hb]; exact growslice_fits (by omega) h47)
        rw [hr] at hrun
        injection hrun with hv _
        rw [← hv] at hg
        injection hg with hg
        rw [← hg]
        exact zq _
theorem step_append_mine (K : EK P t e z by_) (hf : ∀ x, (f x).oneCell' = true) (w : World) {ops : Array Oper} {o : Oper} {a : Act} {K' : Act → World → Prop} {Q : Exit → Act → World → Prop} {E : Prop} (hgd : o.guard = none) (s x : Operand)
    (ho : o.op = .call { callee := .builtin .append, args := #[s, x], argTypes := #[t, t] })
    (A0 : Option Addr) (n c0 : Nat) (xs : List α) (hs : a.eval s = .slice A0 n c0) (hown : w.ownsRow 0 e 1 (.slice A0 n c0) n (xs.map f))
    (A : Option Addr) (m c : Nat) (ys : List α) (hx : a.eval x = .slice A m c) (hm : ys.length = m) (hy : Lies f w A ys) (h47 : (n + m) * by_ ≤ 140737488355328) (h48 : n + m ≤ maxLen)
    (h : ∀ A' c' w', w'.ownsRow 0 e 1 (.slice A' (n + m) c') (n + m) ((xs ++ ys).map f) → w.grownBy w' (Value.slice A0 n c0).ownBlock → (∀ g, (Value.slice A' (n + m) c').ownBlock = some g → (Value.slice A0 n c0).ownBlock = some g ∨ w.heap.size ≤ g) → K' (a.put o.dst (.slice A' (n + m) c')) w') :
    if Region.wanted o (yielded ops a.tmps) = true then Oper.wp P o a w K' Q else E := by
  obtain ⟨A', c', w', hrun, h2, h3, h4⟩ := run_append_mine K hf w o.type A0 n c0 xs hown A m c ys hm hy h47 h48
  rw [if_pos (by simp [Region.wanted, hgd])]
  unfold Oper.wp execOp
  simp only [ho, resolve, invoke, builtin, Sem.run_bind, Sem.run_pure, Result.andThen_ok, List.map_toArray, List.map_cons, List.map_nil, hs, hx, hrun]
  exact h A' c' w' h2 h3 h4
end

def LTakePost (S : Nat → Prop) (q D : Nat) (c : Cfg) (w : World) (m : Mst) (e : Ending) (w' : World) : Prop :=
  e = .returned (.tuple #[]) ∧ But [q, D] w w' ∧ ∃ D', (D' = D ∨ w.heap.size ≤ D') ∧ LMAt w' (fun g => S g ∨ g = D') q D' c m
theorem lm_set8 {w : World} {q : Nat} {c : Cfg} {st tr tk sl : Int} {a : Ask} {h k d : Hd} {T : TypeId} (hr : w.heap[q]? = some (.cells (lmCells c st tr tk sl a h k d) T (0, 0))) : (∀ d' : Hd, (w.setCell ⟨q, 16, none⟩ (.slice d'.1 d'.2.1 d'.2.2)).heap[q]? = some (.cells (lmCells c st tr tk sl a h k d') T (0, 0))) ∧ True ∧ (∀ v : Int, (w.setCell ⟨q, 15, none⟩ (.int .i64 v)).heap[q]? = some (.cells (lmCells c st tr tk v a h k d) T (0, 0))) :=
  ⟨fun v => by rw [row_set hr]; rfl, trivial, fun v => by rw [row_set hr]; rfl⟩

set_option maxRecDepth 100000 in
set_option maxHeartbeats 1000000 in
theorem take8_any (S : Nat → Prop) (q D : Nat) (c : Cfg) (m : Mst) (A : Option Addr) (n cc : Nat) (b : List UInt8) (hn : b.length = n) (hnc : n ≤ cc) (hm : n ≤ 100000) (w : World) (hM : LMAt w S q D c m) (hF : ∀ g o s, A = some ⟨g, o, s⟩ → 0 < b.length → g ≠ q) (hb : Lies u8v w A b) :
    Calls Tryz.prog 18 #[.pointer (some ⟨q, 0, none⟩), .slice A n cc] w (LTakePost S q D c w (Ms.take m b)) := by
  obtain ⟨st, tr, tk, a, h, k, d, b0, x, hq, hi⟩ := hM
  obtain ⟨dA, dn, dc⟩ := d
  have HX := qh x
  have HI := qh hi
  have hqD : q ∈ [q, D] := List.mem_cons_self ..
  obtain ⟨l0, l1, l2, l3, l4, l5, l6, l7, l8⟩ := lm_loads x.row
  have f15 := lm_frees x.row 15
  have f16 := lm_frees x.row 16
  have hqlt := row_lt x.row
  have HF := qh hF
  have HB := qh hb
  have hdn : dn ≤ 300 := x.dm
  have hSq := x.sq
  have hSD := x.sD
  clear x hi hF hb
  by_cases h0 : n = 0
  · subst h0
    obtain rfl : b = [] := List.eq_nil_of_length_eq_zero hn
    go_enter Tryz.func18, Tryz.ntmps18
    go_wp2_with fail
    refine bodyPost_ret_by (v := .tuple #[]) (by simp [results, Tryz.f18, go_sem]) rfl ?_
    exact ⟨rfl, But.refl _ _, D, .inl rfl, ⟨st, tr, tk, a, h, k, (dA, dn, dc), b0, (HX.out.widen (Below.refl _ _) (.inl hSq) (.inl hSD) (fun g hg => hg.elim .inl (fun e => .inl (e ▸ hSD))) (fun g hg => HX.out.lt g (hg.elim id (fun e => e ▸ hSD)))), hq, HI.out⟩⟩
  · have h1 : ((n : Int) == 0) = false := by rw [beq_eq_false_iff_ne]; omega
    have hne : b ≠ [] := fun e => h0 (by rw [← hn, e]; rfl)
    have et : Ms.take m b = ⟨0, Ms.takeSt b m.st⟩ := by unfold Ms.take; rw [if_neg hne]
    rw [et]
    have x5 := HX.out.next (But.one w q 15 (.int .i64 0)) ((lm_set8 HX.out.row).2.2 0)
    have HX5 := qh x5
    by_cases h2 : st = 2
    · subst h2
      obtain ⟨mq, ms⟩ := m
      have hi := HI.out
      obtain ⟨f, t, a', b', rfl⟩ : ∃ f t a' b', ms = .waits f t a' b' := by
        cases ms with
        | idle => exact absurd hi (by show ¬ (2 : Int) = 0; decide)
        | wants f t a' => exact absurd hi.1 (by decide)
        | waits f t a' b' => exact ⟨f, t, a', b', rfl⟩
      obtain ⟨-, e1, e2, rfl, rfl⟩ := hi
      have hdl : b0.length = dn := x5.came.2.2.1
      have hbb : b = [] ++ b := rfl
      obtain ⟨mm, hmm⟩ : ∃ mm : Nat, min n (300 - dn) = mm := ⟨_, rfl⟩
      have hmin : min (n : Int) (300 - (dn : Int)) = (mm : Int) := by omega
      have hw1 : Go.IntKind.i64.wrap (300 - (dn : Int)) = 300 - (dn : Int) := by rw [IntKind.wrap_i64]; omega
      have hm0 : (0 : Int) ≤ (mm : Int) := by omega
      have hmc : (mm : Int) ≤ (cc : Int) := by omega
      have hmt : ((mm : Int)).toNat = mm := by omega
      obtain ⟨bb, oo, rfl, hbl, hbc⟩ := HB.out.at_ (by rw [hn]; omega)
      have hys : Lies u8v (w.setCell ⟨q, 15, none⟩ (.int .i64 0)) (some ⟨bb, oo, none⟩) (b.take mm) := (HB.out.but (But.one w q 15 _) (fun g o s e h0' hm' => HF.out g o s e h0' (List.mem_singleton.1 hm'))).take mm
      have hyl : (b.take mm).length = mm := by rw [List.length_take, hn]; omega
      have HTK : Hid ((b0 ++ b).take 300 = b0 ++ b.take mm) := qh (by
        rw [List.take_append, List.take_of_length_le (by omega), hdl, ← hmm]
        congr 1
        rw [show min n (300 - dn) = min (300 - dn) n from Nat.min_comm _ _, ← List.take_take]
        congr 1
        rw [← hn, List.take_length])
      have HOWN := qh x5.own
      have HYS := qh hys
      have HYL := qh hyl
      have HDM : Hid (dn + mm ≤ 300) := qh (by omega)
      clear x5 hn hnc hm hys hyl hdl hmm hbb hbc
      go_enter Tryz.func18, Tryz.ntmps18
      go_wp2_with fail
      have HQR : Hid (∀ w3, (w.setCell ⟨q, 15, none⟩ (.int .i64 0)).grownBy w3 (Value.slice dA dn dc).ownBlock → w3.heap[q]? = some (.cells (lmCells c 2 tr tk 0 a h k (dA, dn, dc)) 78 (0, 0))) := qh (fun w3 hg => (hg.block q (row_lt HX5.out.row) (fun e => (HX5.out.fd q e.symm).2 rfl)).trans HX5.out.row)
      obtain ⟨W, hW⟩ : ∃ W, w.setCell ⟨q, 15, none⟩ (.int .i64 0) = W := ⟨_, rfl⟩
      have HBW : Hid (But [q, D] w W) := qh (by rw [← hW]; exact (But.one w q 15 _).mono (fun g hg => (List.mem_singleton.1 hg) ▸ hqD))
      have HSZ : Hid (W.heap.size = w.heap.size) := qh (by rw [← hW]; simp [World.setCell])
      rw [hW] at HX5 HOWN HYS HQR ⊢
      have l16' : W.cell? ⟨q, 16, none⟩ = some (.slice dA dn dc) := (lm_loads HX5.out.row).2.2.2.2.2.2.2.2
      have hltW : q < W.heap.size := row_lt HX5.out.row
      have HQRd : Hid (∀ w3, W.drew.grownBy w3 (Value.slice dA dn dc).ownBlock → w3.heap[q]? = some (.cells (lmCells c 2 tr tk 0 a h k (dA, dn, dc)) 78 (0, 0))) := qh (fun w3 hg => HQR.out w3 ⟨hg.os, hg.tape, hg.output, hg.size, hg.block⟩)
      have HQG : Hid (∀ w3, W.drew.grownBy w3 (Value.slice dA dn dc).ownBlock → W.grownBy w3 (Value.slice dA dn dc).ownBlock) := qh (fun w3 hg => ⟨hg.os, hg.tape, hg.output, hg.size, hg.block⟩)
      clear hW l0 l1 l2 l3 l4 l5 l6 l7 l8 f15 f16
      go_region_law (first | (refine step_append_mine kit8 one8 _ (by rfl) (.tmp 26) (.tmp 32) (by rfl) dA dn dc b0 (by rfl) HOWN.out (some ⟨bb, oo, none⟩) mm cc (b.take mm) (by rfl) HYL.out HYS.out (by have := HDM.out; omega) (by have := HDM.out; unfold maxLen; omega) ?_; intro A3 c3 w3 hown3 hg3 hn3; (first | (have hrow3 := HQR.out w3 hg3; have hgr3 := hg3) | (have hrow3 := HQRd.out w3 hg3; have hgr3 := HQG.out w3 hg3)); have l163 := (lm_loads hrow3).2.2.2.2.2.2.2.2; have f163 := lm_frees hrow3 16; have hlt3 := row_lt hrow3) | fail)
      all_goals (
        have HGR := qh hgr3
        have HOW := qh hown3
        have HN3 : Hid (∀ g, (Value.slice A3 (dn + mm) c3).ownBlock = some g → (Value.slice dA dn dc).ownBlock = some g ∨ W.heap.size ≤ g) := qh hn3
        have HR3 := qh hrow3
        clear hg3 hown3 hn3 hrow3 hgr3 l163 f163 hlt3 HQR HQRd HQG l16'
        refine bodyPost_ret_by (v := .tuple #[]) (by simp [results, Tryz.f18, go_sem]) rfl ?_
        have hl3 := own_at HOW.out
        have hpos : 0 < dn + mm := by
          rcases Nat.eq_zero_or_pos dn with h | h
          · subst h
            have := HYL.out
            omega
          · omega
        obtain ⟨g3, o3, hA3, -⟩ := hl3.2.2.2 0 (by rw [hl3.2.2.1]; exact hpos)
        subst hA3
        have hcase := HN3.out g3 rfl
        have hlt3 : g3 < w3.heap.size := (HOW.out.lt g3 rfl).2
        have hg3 : (g3 = D ∨ w.heap.size ≤ g3) ∧ g3 ≠ q := by
          rcases hcase with h | h
          · exact ⟨.inl (HX5.out.fd g3 h).1, (HX5.out.fd g3 h).2⟩
          · have := HSZ.out
            exact ⟨.inr (by omega), by omega⟩
        have hb3 : But [q, D] W w3 := (But.refl [q, D] W).grown HGR.out (fun k hk => .inl (by rw [(HX5.out.fd k hk).1]; simp))
        have hbz1 : But [q] w3 (w3.setCell ⟨q, 16, none⟩ (.slice (some ⟨g3, o3, none⟩) (dn + mm) c3)) := But.one w3 q 16 _
        have hbz : But [q, D] W (w3.setCell ⟨q, 16, none⟩ (.slice (some ⟨g3, o3, none⟩) (dn + mm) c3)) := hb3.trans (hbz1.mono (fun g hg => (List.mem_singleton.1 hg) ▸ hqD))
        have hin2 : ∀ g ∈ [q, D], S g := fun g hg => by
          rcases List.mem_cons.1 hg with h | h
          · rw [h]; exact hSq
          · rw [List.mem_singleton.1 h]; exact hSD
        refine ⟨rfl, HBW.out.trans hbz, g3, hg3.1, ⟨2, tr, tk, a, h, k, (some ⟨g3, o3, none⟩, dn + mm, c3), b0 ++ b.take mm, ⟨(lm_set8 HR3.out).1 (some ⟨g3, o3, none⟩, dn + mm, c3), HX5.out.ins.but hbz (fun g o s e h0 hm => HX5.out.fh g o s e h0 (hin2 g hm)) (fun g o s e h0 hm => HX5.out.fk g o s e h0 (hin2 g hm)), own_but HOW.out hbz1 (fun g hg hm => ?_), HDM.out, .inl hSq, .inr rfl, fun g hg => ?_, fun g o s e h0 hS => ?_, fun g o s e h0 hS => ?_, fun g hg => ?_⟩, Nat.zero_le _, rfl, e1, e2, rfl, HTK.out.symm⟩⟩
        · injection hg with hg
          rw [← hg] at hm
          exact hg3.2 (List.mem_singleton.1 hm)
        · have hs := hbz.size
          have hs3 := hbz1.size
          rcases hg with hg | rfl
          · exact Nat.lt_of_lt_of_le (HX5.out.lt g hg) hs
          · omega
        · rcases hS with hS | rfl
          · exact HX5.out.fh g o s e h0 hS
          · rcases hcase with h | h
            · exact HX5.out.fh g o s e h0 ((HX5.out.fd g h).1 ▸ hSD)
            · have := lies_old HX5.out.ins.hl g o s e (by rw [HX5.out.ins.hn]; exact h0)
              omega
        · rcases hS with hS | rfl
          · exact HX5.out.fk g o s e h0 hS
          · rcases hcase with h | h
            · exact HX5.out.fk g o s e h0 ((HX5.out.fd g h).1 ▸ hSD)
            · have := lies_old HX5.out.ins.kl g o s e (by rw [HX5.out.ins.kn]; exact h0)
              omega
        · injection hg with hg
          exact ⟨hg.symm, hg ▸ hg3.2⟩)
    · have h2' : (st == 2) = false := by rw [beq_eq_false_iff_ne]; exact h2
      clear x5
      go_enter Tryz.func18, Tryz.ntmps18
      go_wp2_with fail
      go_end0
      refine ⟨rfl, But.one w q 15 _ |>.mono (fun g hg => (List.mem_singleton.1 hg) ▸ hqD), D, .inl rfl, ⟨st, tr, tk, a, h, k, (dA, dn, dc), b0, (HX5.out.widen (Below.refl _ _) (.inl hSq) (.inl hSD) (fun g hg => hg.elim .inl (fun e => .inl (e ▸ hSD))) (fun g hg => HX5.out.lt g (hg.elim id (fun e => e ▸ hSD)))), Nat.zero_le _, ?_⟩⟩
      have hi := HI.out
      revert hi
      show LIs st tr tk a b0 m.st → LIs st tr tk a b0 (Ms.takeSt b m.st)
      cases m.st with
      | idle => exact id
      | wants f t a' => exact id
      | waits f t a' b' => exact fun hi => absurd hi.1 h2

end Go.Proofs.YtlgmjnjhdamknaaGreat

namespace Go.Proofs.YtlgmjnjhdamknaaGreat
open Go.RowKit

theorem LTickPost.out {S : Nat → Prop} {q D : Nat} {c : Cfg} {w w' : World} {m' : Mst} {bs : List UInt8} {o : MOut} {e : Ending} (p : LTickPost S q D c w (m', bs, o) e w') :
    ∃ (B : Option Addr) (n cc : Nat) (KK xe : Int) (h k t : Hd), e = .returned (.tuple #[.slice B n cc, .agg #[.int .i64 KK, .int .i64 xe, .slice h.1 h.2.1 h.2.2, .slice k.1 k.2.1 k.2.2, .slice t.1 t.2.1 t.2.2]]) ∧ ((Ms.kind o : Nat) : Int) = KK ∧ (Ms.ans o).exc = xe ∧ bs.length = n ∧ n ≤ cc ∧ cc ≤ maxLen ∧ Lies u8v w' B bs ∧ AnsIn w' (Ms.ans o) h k t ∧ LMAt w' S q D c m' ∧ But [q] w w' := by
  obtain ⟨B, n, cc, xe, h, k, t, he, h1, h2, h3, h4⟩ := p
  exact ⟨B, n, cc, _, xe, h, k, t, he, rfl, h1, h2.bn, h2.bc, h2.bm, h2.bl, h2.xi, h3, h4⟩
theorem ltick8 {S : Nat → Prop} {q D : Nat} {c : Cfg} {m m' : Mst} {bs : List UInt8} {o : MOut} (w : World) (hc : Ms.right c = true) (hM : LMAt w S q D c m) (hO : Ms.Ok c m.st) (hr : Ms.tick c m = (m', bs, o)) :
    Calls Tryz.prog 12 #[.pointer (some ⟨q, 0, none⟩)] w fun e w' => ∃ (B : Option Addr) (n cc : Nat) (KK xe : Int) (h k t : Hd), e = .returned (.tuple #[.slice B n cc, .agg #[.int .i64 KK, .int .i64 xe, .slice h.1 h.2.1 h.2.2, .slice k.1 k.2.1 k.2.2, .slice t.1 t.2.1 t.2.2]]) ∧ ((Ms.kind o : Nat) : Int) = KK ∧ (Ms.ans o).exc = xe ∧ bs.length = n ∧ n ≤ cc ∧ cc ≤ maxLen ∧ Lies u8v w' B bs ∧ AnsIn w' (Ms.ans o) h k t ∧ LMAt w' S q D c m' ∧ But [q] w w' := by
  have := tick8_any S q D c m w hc hM hO
  rw [hr] at this
  exact this.mono fun _ _ p => p.1.out
theorem LMAt.lt {w : World} {S : Nat → Prop} {q D : Nat} {c : Cfg} {m : Mst} (x : LMAt w S q D c m) : q < w.heap.size := by
  obtain ⟨st, tr, tk, a, h, k, d, b, hr, h1, h2⟩ := x
  exact row_lt hr.row
theorem LMAt.all {w : World} {S : Nat → Prop} {q D : Nat} {c : Cfg} {m : Mst} (x : LMAt w S q D c m) : S q ∧ S D ∧ ∀ g, S g → g < w.heap.size := by
  obtain ⟨st, tr, tk, a, h, k, d, b, hr, h1, h2⟩ := x
  exact ⟨hr.sq, hr.sD, hr.lt⟩
theorem LMAt.far {w : World} {S : Nat → Prop} {q D : Nat} {c : Cfg} {m : Mst} (x : LMAt w S q D c m) {A : Option Addr} {l : List UInt8} (h : Lies u8v w A l) (hl : 2 ≤ l.length) : ∀ b o s, A = some ⟨b, o, s⟩ → b ≠ q := by
  rintro b o s rfl rfl
  obtain ⟨st, tr, tk, a, xh, xk, d, b', hr, h1, h2⟩ := x
  obtain ⟨b1, o1, e1, hc⟩ := h 1 (by omega)
  cases e1
  rw [cell_of_row _ _ _ _ _ _ hr.row] at hc
  match o, hc with
  | 0, hc | 1, hc | 2, hc | 3, hc | 4, hc | 5, hc | 6, hc | 7, hc | 8, hc | 9, hc | 10, hc | 11, hc | 12, hc | 13, hc | 14, hc | 15, hc => simp [lmCells] at hc
  | n + 16, hc => simp [lmCells] at hc

theorem lbusy8 {S : Nat → Prop} {q D : Nat} {c : Cfg} {m : Mst} (w : World) (hM : LMAt w S q D c m) :
    Calls Tryz.prog 20 #[.pointer (some ⟨q, 0, none⟩)] w fun e w' => e = .returned (.bool (Ms.code m.st != 0)) ∧ w' = w := by
  obtain ⟨st, tr, tk, a, h, k, d, b, hr, h1, h2⟩ := hM
  have hs : (st != 0) = (Ms.code m.st != 0) := by
    obtain ⟨mq, ms⟩ := m
    cases ms with
    | idle =>
      obtain rfl : st = 0 := h2
      rfl
    | wants f t a' =>
      obtain rfl : st = 1 := h2.1
      rfl
    | waits f t a' b' =>
      obtain rfl : st = 2 := h2.1
      rfl
  have := busy8_any q c st tr tk _ a h k d w hr.row
  rw [hs] at this
  exact this
namespace Aw
def c0 : Cfg := ⟨1, 2, 5, 1⟩
def a0 : Ask := ⟨3, 0, 1, 0, [], [], 0, 0⟩
def x0 : Ans := ⟨0, [], [7], []⟩
def r0 : List UInt8 := Rtu.bytes 1 (An.bytes a0 x0)
theorem right : Ms.right c0 = true := by decide
theorem ask : Ak.right a0 = true := by decide
theorem ans : An.right a0 x0 = true := by decide
theorem start : Ms.start ⟨2, .idle⟩ a0 = (⟨2, .wants 0 0 a0⟩, 0) := by
  unfold Ms.start
  rw [if_neg (by show ¬ ¬ (0 : Nat) = 0; decide), if_pos ask]
theorem again : Ms.start ⟨2, .wants 0 0 a0⟩ a0 = (⟨2, .wants 0 0 a0⟩, 8) := by
  unfold Ms.start
  rw [if_pos (by show ¬ (1 : Nat) = 0; decide)]
theorem send : Ms.tick c0 ⟨2, .wants 0 0 a0⟩ = (⟨0, .waits 0 1 a0 []⟩, Ms.sent c0 a0, .none) := by
  show Ms.tickSt c0 2 _ = _
  unfold Ms.tickSt
  dsimp only
  rw [if_neg (by decide)]
theorem sentLen : (Ms.sent c0 a0).length = 8 := by decide +kernel
theorem sentFirst : (Ms.sent c0 a0)[0]? = some 1 := by decide +kernel
theorem anBytes : An.bytes a0 x0 = An.text a0 x0 := by
  unfold An.bytes
  rw [if_pos ans]
theorem r0_eq : r0 = Rtu.bytes c0.unit (An.text a0 x0) := by
  unfold r0
  rw [anBytes]
  rfl
theorem heard : Ms.heard c0 a0 r0 = some x0 ∧ 4 ≤ r0.length ∧ r0.length ≤ 256 := by
  rw [r0_eq]
  exact Ms.heard_there ans
theorem r0_ne : r0 ≠ [] := fun e => by
  have := heard.2.1
  rw [e] at this
  simp at this
theorem take : Ms.take ⟨0, .waits 0 1 a0 []⟩ r0 = ⟨0, .waits 0 1 a0 r0⟩ := by
  unfold Ms.take
  rw [if_neg r0_ne]
  show (⟨0, .waits 0 1 a0 (([] ++ r0).take 300)⟩ : Mst) = _
  rw [List.nil_append, List.take_of_length_le (by have := heard.2.2; omega)]
theorem quiet : Ms.tick c0 ⟨0, .waits 0 1 a0 r0⟩ = (⟨1, .waits 1 1 a0 r0⟩, [], .none) := Ms.tick_quiet (c := c0) (i := 0) r0_ne (by decide) (by decide)
theorem told : Ms.tick c0 ⟨1, .waits 1 1 a0 r0⟩ = (⟨2, .idle⟩, [], .done x0) := Ms.tick_heard (c := c0) (i := 1) r0_ne (by decide) heard.1
def st : Nat → Mst
  | 0 => ⟨2, .wants 0 0 a0⟩
  | n + 1 => ⟨min n 2, .waits n 1 a0 []⟩
theorem wait (n : Nat) (h : n < 4) : Ms.tick c0 (st (n + 1)) = (st (n + 2), [], .none) := by
  show Ms.tickSt c0 (min (min n 2 + 1) 2) (.waits n 1 a0 []) = _
  unfold Ms.tickSt
  dsimp only
  rw [if_pos rfl, if_neg (by show ¬ 5 ≤ n + 1; omega)]
  show ((⟨min (min n 2 + 1) 2, .waits (n + 1) 1 a0 []⟩, [], MOut.none) : Mst × List UInt8 × MOut) = _
  rw [show min (min n 2 + 1) 2 = min (n + 1) 2 by omega]
  rfl
theorem silent : Ms.tick c0 (st 5) = (⟨2, .idle⟩, [], .silent) := by
  show Ms.tickSt c0 2 (.waits 4 1 a0 []) = _
  unfold Ms.tickSt
  dsimp only
  rw [if_pos rfl, if_pos (by decide)]
  rfl
theorem ok (n : Nat) (h : n ≤ 5) : Ms.Ok c0 (st n).st := by
  refine .inr ⟨a0, ?_, ask⟩
  cases n with
  | zero => exact ⟨rfl, by decide, by decide⟩
  | succ n =>
    refine ⟨rfl, ?_, zq _, zq _, Nat.zero_le _, fun _ => ?_⟩
    · show n < 2 * 5
      omega
    · show n < 5
      omega
theorem okr (n : Nat) (h : n ≤ 1) : Ms.Ok c0 (.waits n 1 a0 r0) := by
  refine .inr ⟨a0, ⟨rfl, ?_, zq _, zq _, by have := heard.2.2; omega, fun e => absurd e r0_ne⟩, ask⟩
  show n < 2 * 5
  omega
theorem bytesFew : (An.bytes a0 x0).length ≤ 60000 := by decide +kernel
theorem step (j : Nat) (h : j ≤ 5) : ∃ m' bs o, Ms.tick c0 (st j) = (m', bs, o) ∧ ((j < 5 ∧ Ms.kind o = 0 ∧ m' = st (j + 1)) ∨ (j = 5 ∧ Ms.kind o = 2 ∧ m' = ⟨2, .idle⟩)) := by
  rcases Nat.lt_or_ge j 5 with h5 | h5
  · cases j with
    | zero => exact ⟨_, _, _, send, .inl ⟨h5, rfl, rfl⟩⟩
    | succ n => exact ⟨_, _, _, wait n (by omega), .inl ⟨h5, rfl, rfl⟩⟩
  · obtain rfl : j = 5 := by omega
    exact ⟨_, _, _, silent, .inr ⟨rfl, rfl, rfl⟩⟩
end Aw
end Go.Proofs.YtlgmjnjhdamknaaGreat
