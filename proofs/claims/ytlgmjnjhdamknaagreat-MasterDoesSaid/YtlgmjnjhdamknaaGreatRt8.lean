
/- A part of the proof of the law MasterDoes. -/
import Derived.Test.YtlgmjnjhdamknaaGreatMem
import Derived.Test.YtlgmjnjhdamknaaGreatCm8
import Derived.Test.YtlgmjnjhdamknaaGreatRhd
import Derived.Test.YtlgmjnjhdamknaaGreatRm
import Derived.Test.YtlgmjnjhdamknaaGreatRow
import Derived.Test.YtlgmjnjhdamknaaGreatBeq
import Derived.Test.YtlgmjnjhdamknaaGreatRs2
import Derived.Deep.RegionLaw
namespace Go.Proofs.YtlgmjnjhdamknaaGreat
open Go.RowKit

def RTick8Post (S : Nat → Prop) (q : Nat) (c : Cfg) (w : World) (r : Mst × List UInt8 × MOut) (e : Ending) (w' : World) : Prop :=
  ∃ B n cc h k t, e = .returned (.tuple #[.slice B n cc, .int .i64 ((Ms.kind r.2.2 : Nat) : Int), ansV (Ms.ans r.2.2) h k t]) ∧ Told8 w' r B n cc h k t ∧ RMAt w' S q c r.1 ∧ But [q] w w' ∧ Kept w w'
theorem RTickPost.full {S : Nat → Prop} {q : Nat} {c : Cfg} {a : Ask} {w w' : World} {r : Mst × List UInt8 × MOut} {e : Ending} {st qt sp tr : Int} {h k d : Hd} {b : List UInt8} (hr : RMRaw w q S c st qt sp tr a h k d b) (x : RTickPost S q c a w r e w') : RTick8Post S q c w r e w' := by
  obtain ⟨B, n, cc, h, k, t, he, h1, h2, h3, h4, h5, hm, hb⟩ := x
  refine ⟨B, n, cc, h, k, t, he, ⟨h1, h2, h3, h4, h5⟩, hm.at_, hb, ?_⟩
  obtain ⟨_, _, _, _, _, _, _, _, hr2, _, _⟩ := hm
  exact hr.kept hr2 hb
theorem rtick8_any (S : Nat → Prop) (q : Nat) (c : Cfg) (m : Mst) (w : World) (hc : Ms.right c = true) (hM : RMAt w S q c m) (hO : Ms.Ok c m.st) :
    Calls Tryz.prog 13 #[.pointer (some ⟨q, 0, none⟩)] w (RTick8Post S q c w (Ms.tick c m)) := by
  obtain ⟨st, qt, sp, tr, a, h, k, d, b, hr, hq, hi⟩ := hM
  obtain ⟨mq, ms⟩ := m
  have hs := cfg_small hc
  cases ms with
  | idle =>
    obtain rfl : st = 0 := hi
    exact (rtick8_idle S q c mq b a qt sp tr h k d w hc hr hq).mono fun _ _ x => x.full hr
  | wants f t a' =>
    obtain ⟨rfl, rfl, rfl, rfl⟩ := hi
    rcases hO with hO | ⟨a', hO, -⟩
    · cases hO
    · exact (rtick8_wants S q c mq f t b a qt h k d w hc hr hq hO.2.1 hO.2.2).mono fun _ _ x => x.full hr
  | waits f t a' b' =>
    obtain ⟨rfl, rfl, rfl, rfl, rfl⟩ := hi
    rcases hO with hO | ⟨a', hO, -⟩
    · cases hO
    · obtain ⟨-, h1, h2, h3, h4, h5⟩ := hO
      have he : Ms.tick c ⟨mq, .waits f t a b⟩ = if b = [] then (if c.wait ≤ f + 1 then Ms.fail c (min (mq + 1) c.gap) t a .silent else (⟨min (mq + 1) c.gap, .waits (f + 1) t a b⟩, [], .none))
        else if c.gap ≤ min (mq + 1) c.gap then (match Ms.heard c a b with
          | some x => (⟨min (mq + 1) c.gap, .idle⟩, [], .done x)
          | none => Ms.fail c (min (mq + 1) c.gap) t a .garbled)
        else if 2 * c.wait ≤ f + 1 then Ms.fail c (min (mq + 1) c.gap) t a .garbled else (⟨min (mq + 1) c.gap, .waits (f + 1) t a b⟩, [], .none) := rfl
      rw [he]
      by_cases hb : b = []
      · rw [if_pos hb]
        by_cases hw : c.wait ≤ f + 1
        · rw [if_pos hw]
          exact (rtick8_silent S q c mq f t b a qt h k d w hc hr hq h1 h4 hb hw).mono fun _ _ x => x.full hr
        · rw [if_neg hw]
          exact (rtick8_waits_on S q c mq f t b a qt h k d w hc hr hq h1 h4 hb (by omega)).mono fun _ _ x => x.full hr
      · rw [if_neg hb]
        by_cases hg : c.gap ≤ min (mq + 1) c.gap
        · rw [if_pos hg]
          by_cases hcd : Rtu.codeB b = 0
          · by_cases hun : Rtu.unit b = c.unit
            · by_cases hfe : (An.read a (Rtu.pdu b)).2 = 0
              · rw [show Ms.heard c a b = some (An.read a (Rtu.pdu b)).1 by unfold Ms.heard; rw [if_pos ⟨hcd, hun, hfe⟩]]
                exact (rtick8_right S q c mq f t b a qt h k d w hc hr hq h1 h4 hb hg hcd hun hfe).mono fun _ _ x => x.full hr
              · rw [show Ms.heard c a b = none by unfold Ms.heard; rw [if_neg (fun hh => hfe hh.2.2)]]
                exact (rtick8_wrong S q c mq f t b a qt h k d w hc hr hq h1 h4 hb hg hcd hun hfe).mono fun _ _ x => x.full hr
            · rw [show Ms.heard c a b = none by unfold Ms.heard; rw [if_neg (fun hh => hun hh.2.1)]]
              exact (rtick8_other S q c mq f t b a qt h k d w hc hr hq h1 h4 hb hg hcd hun).mono fun _ _ x => x.full hr
          · rw [show Ms.heard c a b = none by unfold Ms.heard; rw [if_neg (fun hh => hcd hh.1)]]
            exact (rtick8_torn S q c mq f t b a qt h k d w hc hr hq h1 h4 hb hg hcd).mono fun _ _ x => x.full hr
        · rw [if_neg hg]
          by_cases hw : 2 * c.wait ≤ f + 1
          · rw [if_pos hw]
            exact (rtick8_late S q c mq f t b a qt h k d w hc hr hq h1 h4 hb hg hw).mono fun _ _ x => x.full hr
          · rw [if_neg hw]
            exact (rtick8_waits_more S q c mq f t b a qt h k d w hc hr hq h1 h4 hb hg hw).mono fun _ _ x => x.full hr

end Go.Proofs.YtlgmjnjhdamknaaGreat

namespace Go.Proofs.YtlgmjnjhdamknaaGreat
open Go.RowKit

theorem row3_8 {w2 w3 : World} {g : Nat} {t e : TypeId} {a : Ask} {h k : Hd} (hr : w2.heap[g]? = some (.cells (askCells a h k) t (0, 0))) (A : Option Addr) (n c : Nat)
    (hb : Below w2.heap.size ((w2.setCell ⟨g, 4, none⟩ (.slice A n c)).alloc (.cells #[] e)) w3) : w3.heap[g]? = some (.cells (askCells a (A, n, c) k) t (0, 0)) := by
  have h1 : (w2.setCell ⟨g, 4, none⟩ (.slice A n c)).heap[g]? = some (.cells (askCells a (A, n, c) k) t (0, 0)) := by rw [row_set hr]; rfl
  have h2 : ((w2.setCell ⟨g, 4, none⟩ (.slice A n c)).alloc (.cells #[] e)).heap[g]? = some (.cells (askCells a (A, n, c) k) t (0, 0)) := row_later h1 ((Below.refl _ _).alloc (zq _) _)
  exact (hb.block g (row_lt hr)).trans h2
theorem rm_cells {w : World} {q : Nat} {S : Nat → Prop} {c : Cfg} {st qt sp tr : Int} {a : Ask} {h k d : Hd} {b : List UInt8} (x : RMRaw w q S c st qt sp tr a h k d b) :
    w.cell? ⟨q, 4, none⟩ = some (.int .i64 st) ∧ w.cell? ⟨q, 6, none⟩ = some (.int .i64 sp) ∧ w.cell? ⟨q, 7, none⟩ = some (.int .i64 tr) ∧ w.cell? ⟨q, 8, none⟩ = some (.int .i64 a.code) ∧ w.cell? ⟨q, 9, none⟩ = some (.int .i64 a.addr) ∧ w.cell? ⟨q, 10, none⟩ = some (.int .i64 a.count) ∧ w.cell? ⟨q, 11, none⟩ = some (.int .i64 a.to) ∧ w.cell? ⟨q, 12, none⟩ = some (.slice h.1 h.2.1 h.2.2) ∧ w.cell? ⟨q, 13, none⟩ = some (.slice k.1 k.2.1 k.2.2) ∧ w.cell? ⟨q, 14, none⟩ = some (u16v a.and_) ∧ w.cell? ⟨q, 15, none⟩ = some (u16v a.or_) :=
  ⟨x.cell rfl, x.cell rfl, x.cell rfl, x.cell rfl, x.cell rfl, x.cell rfl, x.cell rfl, x.cell rfl, x.cell rfl, x.cell rfl, x.cell rfl⟩

theorem rm_put (c : Cfg) (st qt sp tr : Int) (a0 a : Ask) (h0 k0 d h k : Hd) : ((((((((((((rmCells c st qt sp tr a0 h0 k0 d).setIfInBounds 8 (.int .i64 a.code)).setIfInBounds 9 (.int .i64 a.addr)).setIfInBounds 10 (.int .i64 a.count)).setIfInBounds 11 (.int .i64 a.to)).setIfInBounds 12 (.slice h.1 h.2.1 h.2.2)).setIfInBounds 13 (.slice k.1 k.2.1 k.2.2)).setIfInBounds 14 (u16v a.and_)).setIfInBounds 15 (u16v a.or_)).setIfInBounds 4 (.int .i64 1)).setIfInBounds 6 (.int .i64 0)).setIfInBounds 7 (.int .i64 0)) = rmCells c 1 qt 0 0 a h k d := by
  unfold rmCells
  simp only [List.setIfInBounds_toArray, List.set_cons_zero, List.set_cons_succ]
theorem RMRaw.putAsk {w : World} {q : Nat} {S : Nat → Prop} {c : Cfg} {st qt sp tr : Int} {a0 : Ask} {h0 k0 d : Hd} {b : List UInt8} (x : RMRaw w q S c st qt sp tr a0 h0 k0 d b) (a : Ask) (h k : Hd) (hi : AskIn w a h k)
    (fh : ∀ b o s, h.1 = some ⟨b, o, s⟩ → 0 < h.2.1 → ¬ S b) (fk : ∀ b o s, k.1 = some ⟨b, o, s⟩ → 0 < k.2.1 → ¬ S b) (W : World) (hW : W = (((((((((((w.setCell ⟨q, 8, none⟩ (.int .i64 a.code)).setCell ⟨q, 9, none⟩ (.int .i64 a.addr)).setCell ⟨q, 10, none⟩ (.int .i64 a.count)).setCell ⟨q, 11, none⟩ (.int .i64 a.to)).setCell ⟨q, 12, none⟩ (.slice h.1 h.2.1 h.2.2)).setCell ⟨q, 13, none⟩ (.slice k.1 k.2.1 k.2.2)).setCell ⟨q, 14, none⟩ (u16v a.and_)).setCell ⟨q, 15, none⟩ (u16v a.or_)).setCell ⟨q, 4, none⟩ (.int .i64 1)).setCell ⟨q, 6, none⟩ (.int .i64 0)).setCell ⟨q, 7, none⟩ (.int .i64 0))) : RMRaw W q S c 1 qt 0 0 a h k d b ∧ But [q] w W := by
  subst hW
  have hB := (((((((((((But.refl [q] w).setCell (p := ⟨q, 8, none⟩) (.inl (List.mem_singleton.2 rfl)) (.int .i64 a.code)).setCell (p := ⟨q, 9, none⟩) (.inl (List.mem_singleton.2 rfl)) (.int .i64 a.addr)).setCell (p := ⟨q, 10, none⟩) (.inl (List.mem_singleton.2 rfl)) (.int .i64 a.count)).setCell (p := ⟨q, 11, none⟩) (.inl (List.mem_singleton.2 rfl)) (.int .i64 a.to)).setCell (p := ⟨q, 12, none⟩) (.inl (List.mem_singleton.2 rfl)) (.slice h.1 h.2.1 h.2.2)).setCell (p := ⟨q, 13, none⟩) (.inl (List.mem_singleton.2 rfl)) (.slice k.1 k.2.1 k.2.2)).setCell (p := ⟨q, 14, none⟩) (.inl (List.mem_singleton.2 rfl)) (u16v a.and_)).setCell (p := ⟨q, 15, none⟩) (.inl (List.mem_singleton.2 rfl)) (u16v a.or_)).setCell (p := ⟨q, 4, none⟩) (.inl (List.mem_singleton.2 rfl)) (.int .i64 1)).setCell (p := ⟨q, 6, none⟩) (.inl (List.mem_singleton.2 rfl)) (.int .i64 0)).setCell (p := ⟨q, 7, none⟩) (.inl (List.mem_singleton.2 rfl)) (.int .i64 0)
  have hr := row_set (i := 7) (row_set (i := 6) (row_set (i := 4) (row_set (i := 15) (row_set (i := 14) (row_set (i := 13) (row_set (i := 12) (row_set (i := 11) (row_set (i := 10) (row_set (i := 9) (row_set (i := 8) (x.row) (.int .i64 a.code)) (.int .i64 a.addr)) (.int .i64 a.count)) (.int .i64 a.to)) (.slice h.1 h.2.1 h.2.2)) (.slice k.1 k.2.1 k.2.2)) (u16v a.and_)) (u16v a.or_)) (.int .i64 1)) (.int .i64 0)) (.int .i64 0)
  rw [rm_put] at hr
  refine ⟨⟨hr, hi.but hB (fun b o s e h0 hm => fh b o s e h0 (List.mem_singleton.1 hm ▸ x.sq)) (fun b o s e h0 hm => fk b o s e h0 (List.mem_singleton.1 hm ▸ x.sq)), x.bn, x.bc, x.bm, x.bl.but hB (fun b o s e1 h0 hm => x.fd b o s e1 (by rw [← x.bn]; exact h0) (List.mem_singleton.1 hm ▸ x.sq)), x.sq, fun b hs => Nat.lt_of_lt_of_le (x.sl b hs) hB.size, fh, fk, x.fd, x.q0, x.q1⟩, hB⟩

set_option maxRecDepth 100000 in
set_option maxHeartbeats 1000000 in
theorem rstart8_any (S : Nat → Prop) (q : Nat) (c : Cfg) (m : Mst) (a : Ask) (h k : Hd) (w : World) (hM : RMAt w S q c m) (ha : AskIn w a h k) :
    Calls Tryz.prog 17 #[.pointer (some ⟨q, 0, none⟩), askV a h k] w fun e w' => e = .returned (.int .i64 (((Ms.start m a).2 : Nat) : Int)) ∧ RMAt w' S q c (Ms.start m a).1 ∧ But [q] w w' := by
  obtain ⟨st, qt, sp, tr, a0, h0, k0, d, b0, hr, hq, hi⟩ := hM
  have hrow := row_at w (askCells a h k) 58 w.heap.size rfl
  have hb0 : Below w.heap.size w (w.alloc (.cells (askCells a h k) 58)) := (Below.refl _ _).alloc (zq _) _
  have hlt := hr.lt
  have hr1 := hr.below hb0
  have c4 : (w.alloc (.cells (askCells a h k) 58)).cell? ⟨q, 4, none⟩ = some (.int .i64 st) := hr1.cell rfl
  have ha1 := ha.below hb0
  have HR1 := qh hr1
  have HR0 := qh hr
  have HA0 := qh ha
  have HI := qh hi
  have HQ := qh hq
  have HRI := qh (rright_any a h k _ ha1)
  have HA1 := qh ha1
  have HROW := qh hrow
  have HB0 := qh hb0
  have hcell : ∀ i v, (askCells a h k)[i]? = some v → (w.alloc (.cells (askCells a h k) 58)).cell? ⟨w.heap.size, i, none⟩ = some v := fun i v e => by rw [cell_of_row _ _ _ _ _ _ hrow]; exact e
  have HCELL := qh hcell
  unfold askCells at hrow c4
  obtain ⟨r0, r1, r2, r3, r4, r5, r6, r7⟩ := row_eight hrow
  obtain ⟨f0, f1, f2, f3, f4, f5, f6, f7⟩ := row_eight_free hrow
  rw [askV_eq] at HRI ⊢
  unfold askCells at HRI
  clear hr hr1 ha ha1 hi hq hb0 hrow hcell
  by_cases h0' : st = 0
  · subst h0'
    cases hri : Ak.right a with
    | false =>
      rw [hri] at HRI
      have et : Ms.start m a = (m, 2) := by
        have hi := HI.out
        obtain ⟨mq, ms⟩ := m
        unfold Ms.start
        cases ms with
        | idle => rw [if_neg (by show ¬ ¬ (0 : Nat) = 0; decide), if_neg (by rw [hri]; decide)]
        | wants => exact absurd hi.1 (by decide)
        | waits => exact absurd hi.1 (by decide)
      rw [et]
      go_enter Tryz.func17, Tryz.ntmps17
      go_wp2_with (first | (go_at_call 41; refine HRI.out.mono ?_; rintro e w1 ⟨rfl, hb1⟩))
      go_ret
      exact ⟨rfl, ⟨0, qt, sp, tr, a0, h0, k0, d, b0, HR1.out.below (hb1.mono (by simp)), HQ.out, HI.out⟩, But.of_below (S := [q]) (HB0.out.trans (hb1.mono (by simp))) (zq _)⟩
    | true =>
      rw [hri] at HRI
      have et : Ms.start m a = (⟨m.quiet, .wants 0 0 a⟩, 0) := by
        have hi := HI.out
        obtain ⟨mq, ms⟩ := m
        unfold Ms.start
        cases ms with
        | idle => rw [if_neg (by show ¬ ¬ (0 : Nat) = 0; decide), if_pos hri]
        | wants => exact absurd hi.1 (by decide)
        | waits => exact absurd hi.1 (by decide)
      rw [et]
      go_enter Tryz.func17, Tryz.ntmps17
      obtain ⟨hA, hn, hc⟩ := h
      obtain ⟨kA, kn, kc⟩ := k
      have hfew := ask_few hri
      have HNW := qh HA1.out.hn
      have HNB := qh HA1.out.kn
      have hhn : a.words.length = hn := HNW.out
      have hkn : a.bits.length = kn := HNB.out
      rw [hhn, hkn] at hfew
      clear r0 r1 r2 r3 r4 r5 r6 r7 f0 f1 f2 f3 f4 f5 f6 f7 hhn hkn
      have hsz0 : (w.alloc (.cells (askCells a (hA, hn, hc) (kA, kn, kc)) 58)).heap.size = w.heap.size + 1 := by simp
      go_wp2_with (first
        | (go_at_call 41; refine HRI.out.mono ?_; rintro e w1 ⟨rfl, hb1⟩; have HROW1 := qh (row_later HROW.out hb1); have hF1 := ask_lists HROW1.out; have g14 := hF1.1; have g15 := hF1.2.1; have f14 := hF1.2.2.1; have f15 := hF1.2.2.2; clear hF1; have hz1 : w.heap.size + 1 ≤ w1.heap.size := Nat.le_trans (Nat.le_of_eq hsz0.symm) hb1.size; have hz1' : w.heap.size < w1.heap.size := hz1; have HRR1 := qh (HR1.out.below hb1); have HAA1 := qh (HA1.out.below hb1); have HB1 := qh (HB0.out.trans (hb1.mono (by simp))); have hlt1 := HRR1.out.lt; have hbe : Below w1.heap.size w1 (w1.alloc (.cells #[] 38)) := ((Below.refl _ _).alloc (zq _) _); have hL1 : Lies u16v (w1.alloc (.cells #[] 38)) hA a.words := (HAA1.out.hl.below hbe (zq _)); have hown : (w1.alloc (.cells #[] 38)).ownsRow w1.heap.size 38 1 (.slice (some ⟨w1.heap.size, 0, none⟩) 0 0) 0 (([] : List UInt16).map u16v) := (own_lit u16v _ #[] 38 w1.heap.size w1.heap.size 0 [] rfl rfl (zq _) rfl (Nat.zero_le _)); have hs1 : w1.heap.size ≤ (w1.alloc (.cells #[] 38)).heap.size := (by simp); clear hb1)
        | (at_builtin; refine wpList_append_lies kit16 one16 _ rfl (.tmp 13) (.tmp 15) rfl w1.heap.size _ 0 [] rfl hown hA hn hc a.words rfl HNW.out hL1 (by omega) (by unfold maxLen; omega) hs1 ?_; intro A2 c2 w2 hown2 hg2 hb2; have hbw2 := hbe.trans hb2; have hz2 := Nat.le_trans hs1 hb2.size; have hz2' : w.heap.size < w2.heap.size := Nat.lt_of_lt_of_le hz1' hz2; have HROW2 := qh (row_later HROW1.out hbw2); have hF2 := ask_lists HROW2.out; have g24 := hF2.1; have g25 := hF2.2.1; have f24 := hF2.2.2.1; have f25 := hF2.2.2.2; clear hF2; (try simp only [Nat.zero_add, List.nil_append] at hown2); have HOA2 := qh (own_at hown2); have HLT2 := qh (fun g hg => (hown2.lt g hg).1); clear hg2)
        | (at_builtin; go_must (have hbw3 := (HB1.out.trans (hbw2.mono (Nat.le_of_lt hz1'))).trans (((But.one w2 w.heap.size 4 (.slice A2 hn c2)).below (B := w.heap.size) (fun g hg => Nat.le_of_eq (List.mem_singleton.1 hg).symm) (Nat.le_of_lt hz2'))); have hsz3 : (w2.setCell ⟨w.heap.size, 4, none⟩ (.slice A2 hn c2)).heap.size = w2.heap.size := (by simp [World.setCell]); have hbw4 := hbw3.alloc (o := .cells #[] 4) (by rw [hsz3]; exact Nat.le_of_lt hz2'); refine wpList_append_lies kitb oneb _ rfl (.tmp 18) (.tmp 20) rfl w2.heap.size _ 0 [] rfl (own_lit bitv _ #[] 4 w2.heap.size w2.heap.size 0 [] rfl rfl (Nat.le_of_eq hsz3.symm) hsz3 (Nat.zero_le _)) kA kn kc a.bits rfl HNB.out (HA0.out.kl.below hbw4 (zq _)) (by omega) (by unfold maxLen; omega) (by simp [hsz3]) ?_; intro A3 c3 w3 hown3 hg3 hb3; have hbw5 := hbw4.trans (hb3.mono (Nat.le_of_lt hz2')); (try simp only [Nat.zero_add, List.nil_append] at hown3); have HOA3 := qh (own_at hown3); have HLT3 := qh (fun g hg => (hown3.lt g hg).1); have HB3 := qh hb3; have HBW5 := qh hbw5; clear hg3; have hlater := row3_8 HROW2.out A2 hn c2 hb3; have HROW3 := qh hlater; unfold askCells at hlater; have hce := row_eight hlater; have hfr := row_eight_free hlater; obtain ⟨p0, p1, p2, p3, p4, p5, p6, p7⟩ := hce; obtain ⟨z0, z1, z2, z3, z4, z5, z6, z7⟩ := hfr; clear hlater; have HRQ := qh (HR0.out.below hbw5); have hqc := rm_cells HRQ.out; obtain ⟨y4, y6, y7, y8, y9, y10, y11, y12, y13, y14, y15⟩ := hqc; have x4 := HRQ.out.free 4; have x6 := HRQ.out.free 6; have x7 := HRQ.out.free 7; have x8 := HRQ.out.free 8; have x9 := HRQ.out.free 9; have x10 := HRQ.out.free 10; have x11 := HRQ.out.free 11; have x12 := HRQ.out.free 12; have x13 := HRQ.out.free 13; have x14 := HRQ.out.free 14; have x15 := HRQ.out.free 15; have hqne : q ≠ w.heap.size := Nat.ne_of_lt hlt)))
      go_ret
      have hB5 : But [w.heap.size] w2 (w3.setCell ⟨w.heap.size, 5, none⟩ (.slice A3 kn c3)) := (((But.one w2 w.heap.size 4 (.slice A2 hn c2)).alloc _).then_low HB3.out).setCell (p := ⟨w.heap.size, 5, none⟩) (.inl (List.mem_singleton.2 rfl)) _
      have hbW : Below w.heap.size w (w3.setCell ⟨w.heap.size, 5, none⟩ (.slice A3 kn c3)) := HBW5.out.setCell (p := ⟨w.heap.size, 5, none⟩) (zq _) _
      have hin : AskIn (w3.setCell ⟨w.heap.size, 5, none⟩ (.slice A3 kn c3)) a (A2, hn, c2) (A3, kn, c3) :=
        ⟨HOA2.out.2.2.1, HOA2.out.1, HOA2.out.2.1, HOA2.out.2.2.2.but hB5 (fun g o s e _ hm => by
            subst e
            have h1 := HLT2.out g rfl
            have h2 := List.mem_singleton.1 hm
            omega),
          HOA3.out.2.2.1, HOA3.out.1, HOA3.out.2.1, HOA3.out.2.2.2.but (But.one w3 w.heap.size 5 _) (fun g o s e _ hm => by
            subst e
            have h1 := HLT3.out g rfl
            have h2 := List.mem_singleton.1 hm
            omega)⟩
      obtain ⟨hraw, hbq⟩ := (HR0.out.below hbW).putAsk a (A2, hn, c2) (A3, kn, c3) hin (fun g o s e _ hS => by
          have e : A2 = some ⟨g, o, s⟩ := e
          subst e
          have h1 := HLT2.out g rfl
          have h2 := HR0.out.sl g hS
          omega) (fun g o s e _ hS => by
          have e : A3 = some ⟨g, o, s⟩ := e
          subst e
          have h1 := HLT3.out g rfl
          have h2 := HR0.out.sl g hS
          omega) _ rfl
      exact ⟨rfl, ⟨1, qt, 0, 0, a, (A2, hn, c2), (A3, kn, c3), d, b0, hraw, HQ.out, rfl, rfl, rfl, rfl⟩, (But.of_below (S := [q]) hbW (zq _)).trans hbq⟩
  · have et : Ms.start m a = (m, 8) := by
      have hi := HI.out
      obtain ⟨mq, ms⟩ := m
      unfold Ms.start
      cases ms with
      | idle => exact absurd hi h0'
      | wants => rw [if_pos (by show ¬ (1 : Nat) = 0; decide)]
      | waits => rw [if_pos (by show ¬ (2 : Nat) = 0; decide)]
    rw [et]
    go_enter Tryz.func17, Tryz.ntmps17
    go_wp2_with fail
    go_ret
    exact ⟨rfl, ⟨st, qt, sp, tr, a0, h0, k0, d, b0, HR1.out, HQ.out, HI.out⟩, But.of_below (S := [q]) HB0.out (zq _)⟩

end Go.Proofs.YtlgmjnjhdamknaaGreat
