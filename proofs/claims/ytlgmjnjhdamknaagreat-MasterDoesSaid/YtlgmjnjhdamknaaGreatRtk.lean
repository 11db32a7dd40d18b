
/- A part of the proof of the law MasterDoes. -/
import Derived.Test.YtlgmjnjhdamknaaGreatMem
import Derived.Test.YtlgmjnjhdamknaaGreatRm
import Derived.Test.YtlgmjnjhdamknaaGreatRow
import Derived.Test.YtlgmjnjhdamknaaGreatBeq
import Derived.Deep.RegionLaw
import Derived.Lib.MinMax
import Derived.Test.YtlgmjnjhdamknaaGreatSma8
import Derived.Test.YtlgmjnjhdamknaaGreatRt8
namespace Go.Proofs.YtlgmjnjhdamknaaGreat
open Go.RowKit

set_option maxRecDepth 100000 in
set_option maxHeartbeats 400000 in
theorem rtake8_any (S : Nat → Prop) (q : Nat) (c : Cfg) (m : Mst) (A : Option Addr) (n cc : Nat) (b : List UInt8) (hn : b.length = n) (hnc : n ≤ cc) (hm : n ≤ 100000) (w : World) (hM : RMAt w S q c m) (hF : ∀ g o s, A = some ⟨g, o, s⟩ → 0 < b.length → g ≠ q) (hO : Ms.Ok c m.st) (hb : Lies u8v w A b) :
    Calls Tryz.prog 19 #[.pointer (some ⟨q, 0, none⟩), .slice A n cc] w fun e w' => e = .returned (.tuple #[]) ∧ RMAt w' S q c (Ms.take m b) ∧ But [q] w w' := by
  obtain ⟨st, qt, sp, tr, a, h, k, d, b0, hr, hq, hi⟩ := hM
  obtain ⟨dA, dn, dc⟩ := d
  have c4 : w.cell? ⟨q, 4, none⟩ = some (.int .i64 st) := hr.cell rfl
  have c5 : w.cell? ⟨q, 5, none⟩ = some (.int .i64 qt) := hr.cell rfl
  have f5 := hr.free 5
  have c16 : w.cell? ⟨q, 16, none⟩ = some (.slice dA dn dc) := hr.cell rfl
  have f16 := hr.free 16
  have hlt := hr.lt
  have HR := qh hr
  have HI := qh hi
  have HQ := qh hq
  have HB := qh hb
  have HO := qh hO
  have HF := qh hF
  have hr5 : RMRaw (w.setCell ⟨q, 5, none⟩ (.int .i64 0)) q S c st 0 sp tr a h k (dA, dn, dc) b0 := hr.store rfl (by omega) (by omega)
  have hB5 : But [q] w (w.setCell ⟨q, 5, none⟩ (.int .i64 0)) := But.one w q 5 _
  clear hr hi hq hb hO hF
  by_cases h0 : n = 0
  · subst h0
    obtain rfl : b = [] := List.eq_nil_of_length_eq_zero hn
    go_enter Tryz.func19, Tryz.ntmps19
    go_wp2_with fail
    refine bodyPost_ret_by (v := .tuple #[]) (by simp [results, Tryz.f19, go_sem]) rfl ?_
    exact ⟨rfl, ⟨st, qt, sp, tr, a, h, k, (dA, dn, dc), b0, HR.out, HQ.out, HI.out⟩, But.refl _ _⟩
  · have h1 : ¬ (n : Int) = 0 := by omega
    have hne : b ≠ [] := fun e => h0 (by rw [← hn, e]; rfl)
    have et : Ms.take m b = ⟨0, Ms.takeSt b m.st⟩ := by unfold Ms.take; rw [if_neg hne]
    rw [et]
    have HR5 := qh hr5
    by_cases h2 : st = 2
    · subst h2
      obtain ⟨mq, ms⟩ := m
      have hi := HI.out
      have hO := HO.out
      obtain ⟨f, t, a', b', rfl⟩ : ∃ f t a' b', ms = .waits f t a' b' := by
        cases ms with
        | idle => exact absurd hi (by show ¬ (2 : Int) = 0; decide)
        | wants f t a' => exact absurd hi.1 (by decide)
        | waits f t a' b' => exact ⟨f, t, a', b', rfl⟩
      obtain ⟨-, e1, e2, rfl, rfl⟩ := hi
      have h300 : b0.length ≤ 300 := by
        rcases hO with hO | ⟨a', hO, -⟩
        · cases hO
        · exact hO.2.2.2.2.1
      have hdn := hr5.bn
      have hdn : b0.length = dn := hdn
      rw [hdn] at h300
      have HN := qh hdn
      have HBN := qh hn
      have hsz5 : (w.setCell ⟨q, 5, none⟩ (.int .i64 0)).heap.size = w.heap.size := by simp [World.setCell]
      have hbe : Below w.heap.size (w.setCell ⟨q, 5, none⟩ (.int .i64 0)) ((w.setCell ⟨q, 5, none⟩ (.int .i64 0)).alloc (.cells #[] 5)) := (Below.refl _ _).alloc (by omega) _
      have hL1 : Lies u8v ((w.setCell ⟨q, 5, none⟩ (.int .i64 0)).alloc (.cells #[] 5)) dA b0 := hr5.bl.below hbe (by omega)
      have hown : ((w.setCell ⟨q, 5, none⟩ (.int .i64 0)).alloc (.cells #[] 5)).ownsRow w.heap.size 5 1 (.slice (some ⟨w.heap.size, 0, none⟩) 0 0) 0 (([] : List UInt8).map u8v) := own_lit u8v _ #[] 5 w.heap.size w.heap.size 0 [] rfl rfl (by omega) hsz5 (Nat.zero_le _)
      have hs1 : w.heap.size ≤ ((w.setCell ⟨q, 5, none⟩ (.int .i64 0)).alloc (.cells #[] 5)).heap.size := by simp [hsz5]
      have hs0 : w.heap.size ≤ w.heap.size := zq _
      have HB5 := qh (HB.out.but hB5 (fun b o s e h0 hm => HF.out b o s e h0 (List.mem_singleton.1 hm)))
      clear hdn hn hr5
      go_enter Tryz.func19, Tryz.ntmps19
      go_wp2_with (first
        | (at_builtin; refine wpList_append_lies kit8 one8 _ rfl (.tmp 16) (.tmp 20) rfl w.heap.size _ 0 [] rfl hown dA dn dc b0 rfl HN.out hL1 (by omega) (by unfold maxLen; omega) hs1 ?_; intro A2 c2 w2 hown2 hg2 hb2; have hbw2 := hbe.trans hb2; have hLb2 := HB5.out.below hbw2 (Nat.le_of_eq hsz5); (try simp only [Nat.zero_add, List.nil_append] at hown2); have hz2 := Nat.le_trans hs1 hb2.size)
        | (at_builtin; go_must (refine wpList_append_lies kit8 one8 _ rfl (.tmp 21) (.tmp 22) rfl w.heap.size _ dn b0 rfl hown2 A n cc b rfl HBN.out hLb2 (by omega) (by unfold maxLen; omega) hz2 ?_; intro A3 c3 w3 hown3 hg3 hb3; have hbw3 := hbw2.trans hb3; have hraw3 := qh (HR5.out.below (w' := w3) (hbw3.mono (Nat.le_of_eq hsz5))); have f163 := hraw3.out.free 16; have c163 : w3.cell? ⟨q, 16, none⟩ = some (.slice dA dn dc) := hraw3.out.cell rfl; have hmin : min ((dn + n : Nat) : Int) 300 = ((min (dn + n) 300 : Nat) : Int) := (by omega); clear hg2 hg3; have hlt3 := hraw3.out.lt)))
      have hoa := own_at hown3
      have hfar : ∀ g o s, A3 = some ⟨g, o, s⟩ → 0 < dn + n → ¬ S g := by
        rintro g o s rfl - hS
        have h1 := (hown3.lt g rfl).1
        have h2 := HR.out.sl g hS
        omega
      have raw4 := hraw3.out.storeB A3 (dn + n) c3 (b0 ++ b) hoa.2.2.1 hoa.1 hoa.2.1 hoa.2.2.2 hfar
      have c164 : (w3.setCell ⟨q, 16, none⟩ (.slice A3 (dn + n) c3)).cell? ⟨q, 16, none⟩ = some (.slice A3 (dn + n) c3) := raw4.cell rfl
      have f164 := raw4.free 16
      have HRW4 := qh raw4
      have hcap : min (dn + n) 300 ≤ c3 := by have := hoa.1; omega
      have hcapi : ((min (dn + n) 300 : Nat) : Int) ≤ (c3 : Int) := by omega
      have hnn : (0 : Int) ≤ ((min (dn + n) 300 : Nat) : Int) := by omega
      obtain ⟨W4, hW4⟩ : ∃ W4, w3.setCell ⟨q, 16, none⟩ (.slice A3 (dn + n) c3) = W4 := ⟨_, rfl⟩
      obtain ⟨g3, o3, rfl, -⟩ := hoa.2.2.2 0 (by rw [hoa.2.2.1]; omega)
      have hB4 : But [q] w W4 := by
        rw [← hW4]
        exact (hB5.then_low hbw3).trans (But.one w3 q 16 _)
      have HW4 := qh hW4
      rw [hW4] at c164 f164 HRW4 ⊢
      clear hW4 raw4 hoa hown3 hb3 hbw3 hraw3 f163 c163 hb2 hbw2 hLb2 hown2 hown hL1 hbe hs1 c16 f16 c4 c5 f5
      have HRB := qh (HRW4.out.storeB (some ⟨g3, o3, none⟩) (min (dn + n) 300) c3 ((b0 ++ b).take 300) (by rw [List.length_take, List.length_append, HN.out, HBN.out]; omega) hcap HRW4.out.bm (fun j hj => by
        rw [List.length_take] at hj
        obtain ⟨x, y, e, hh⟩ := HRW4.out.bl j (by omega)
        exact ⟨x, y, e, by rw [hh, List.getElem_take]⟩) (fun g o s e1 _ => hfar g o s e1 (by omega)))
      clear hmin
      go_region
      rw [show (min ((dn : Int) + (n : Int)) 300).toNat = min (dn + n) 300 by omega]
      go_end0
      refine ⟨rfl, ⟨2, 0, sp, tr, a, h, k, (some ⟨g3, o3, none⟩, min (dn + n) 300, c3), (b0 ++ b).take 300, HRB.out.but ((But.refl [] _).drewN 1) (fun _ hg => absurd hg List.not_mem_nil) List.not_mem_nil, ?_, rfl, e1, e2, rfl, rfl⟩, ?_⟩
      · show min (0 : Int) _ = ((0 : Nat) : Int)
        omega
      · exact (hB4.trans (But.one W4 q 16 _)).drewN 1
    · go_enter Tryz.func19, Tryz.ntmps19
      go_wp2_with fail
      go_end0
      refine ⟨rfl, ⟨st, 0, sp, tr, a, h, k, (dA, dn, dc), b0, HR5.out, ?_, ?_⟩, hB5⟩
      · show min (0 : Int) _ = ((0 : Nat) : Int)
        omega
      · have hi := HI.out
        revert hi
        show MIs st sp tr a b0 m.st → MIs st sp tr a b0 (Ms.takeSt b m.st)
        cases m.st with
        | idle => exact id
        | wants f t a' => exact id
        | waits f t a' b' => exact fun hi => absurd hi.1 h2

end Go.Proofs.YtlgmjnjhdamknaaGreat

namespace Go.Proofs.YtlgmjnjhdamknaaGreat
open Go.RowKit

theorem RMAt.wideBut {w w' : World} {S S' : Nat → Prop} {q : Nat} {c : Cfg} {m : Mst} (x : RMAt w S q c m) {T : List Nat} (hb : But T w w') (hT : ∀ g ∈ T, S g) (hq : q ∉ T) (h1 : S' q) (h2 : ∀ g, S' g → S g ∨ w.heap.size ≤ g) (h3 : ∀ g, S' g → g < w'.heap.size) : RMAt w' S' q c m := by
  obtain ⟨st, qt, sp, tr, a, h, k, d, b, x, g1, g2⟩ := x
  have y := x.but hb hT hq
  refine ⟨st, qt, sp, tr, a, h, k, d, b, ⟨y.row, y.ins, y.bn, y.bc, y.bm, y.bl, h1, h3, fun g o s e h0 hS => ?_, fun g o s e h0 hS => ?_, fun g o s e h0 hS => ?_, y.q0, y.q1⟩, g1, g2⟩
  · rcases h2 g hS with h4 | h4
    · exact x.fh g o s e h0 h4
    · exact absurd (lies_old x.ins.hl g o s e (by rw [x.ins.hn]; exact h0)) (by omega)
  · rcases h2 g hS with h4 | h4
    · exact x.fk g o s e h0 h4
    · exact absurd (lies_old x.ins.kl g o s e (by rw [x.ins.kn]; exact h0)) (by omega)
  · rcases h2 g hS with h4 | h4
    · exact x.fd g o s e h0 h4
    · exact absurd (lies_old x.bl g o s e (by rw [x.bn]; exact h0)) (by omega)
theorem LMAt.wide8 {w w' : World} {q D : Nat} {S S' : Nat → Prop} {c : Cfg} {m : Mst} (x : LMAt w S q D c m) (hb : Below w.heap.size w w') (h1 : S' q) (h1' : S' D) (h2 : ∀ g, S' g → S g ∨ w.heap.size ≤ g) (h3 : ∀ g, S' g → g < w'.heap.size) : LMAt w' S' q D c m := by
  obtain ⟨st, tr, tk, a, h, k, d, b, hr, g1, g2⟩ := x
  exact ⟨st, tr, tk, a, h, k, d, b, hr.widen hb h1 h1' h2 h3, g1, g2⟩
theorem RMAt.state {w : World} {S : Nat → Prop} {q : Nat} {c : Cfg} {m : Mst} (x : RMAt w S q c m) : w.cell? ⟨q, 4, none⟩ = some (.int .i64 ((Ms.code m.st : Nat) : Int)) ∧ q < w.heap.size := by
  obtain ⟨st, qt, sp, tr, a, h, k, d, b, x, g1, g2⟩ := x
  refine ⟨?_, x.lt⟩
  have h4 : w.cell? ⟨q, 4, none⟩ = some (.int .i64 st) := x.cell rfl
  rw [h4]
  cases hm : m.st with
  | idle => rw [hm] at g2; obtain rfl : st = 0 := g2; rfl
  | wants f t a' => rw [hm] at g2; obtain rfl : st = 1 := g2.1; rfl
  | waits f t a' b' => rw [hm] at g2; obtain rfl : st = 2 := g2.1; rfl
theorem LMAt.sq {w : World} {S : Nat → Prop} {q D : Nat} {c : Cfg} {m : Mst} (x : LMAt w S q D c m) : S q := x.all.1
theorem RMAt.sq {w : World} {S : Nat → Prop} {q : Nat} {c : Cfg} {m : Mst} (x : RMAt w S q c m) : S q := by
  obtain ⟨st, qt, sp, tr, a, h, k, d, b, x, g1, g2⟩ := x
  exact x.sq
def RNewPostW (w : World) (u : UInt8) (g f t : Int) (e : Ending) (w' : World) : Prop :=
  Below w.heap.size w w' ∧ ((∃ c : Cfg, c.unit = u ∧ (c.gap : Int) = g ∧ (c.wait : Int) = f ∧ (c.tries : Int) = t ∧ Ms.right c = true ∧ e = .returned (.tuple #[.pointer (some ⟨w.heap.size, 0, none⟩), .int .i64 0]) ∧ w.heap.size < w'.heap.size ∧ (∀ S : Nat → Prop, S w.heap.size → (∀ b, S b → b < w'.heap.size) → RMAt w' S w.heap.size c ⟨c.gap, .idle⟩)) ∨
    ((decide (1 ≤ u.toNat) && decide (u.toNat ≤ 247) && decide (1 ≤ g) && decide (g ≤ 20) && decide (1 ≤ f) && decide (f ≤ 1000) && decide (1 ≤ t) && decide (t ≤ 5)) = false ∧ e = .returned (.tuple #[.pointer none, .int .i64 1])))
set_option maxRecDepth 100000 in
set_option maxHeartbeats 400000 in
theorem rnew8w_any (u : UInt8) (g f t : Int) (w : World) :
    Calls Tryz.prog 9 #[u8v u, .int .i64 g, .int .i64 f, .int .i64 t] w (RNewPostW w u g f t) := by
  obtain ⟨V, hV⟩ : ∃ V, (decide (1 ≤ u.toNat) && decide (u.toNat ≤ 247) && decide (1 ≤ g) && decide (g ≤ 20) && decide (1 ≤ f) && decide (f ≤ 1000) && decide (1 ≤ t) && decide (t ≤ 5)) = V := ⟨_, rfl⟩
  have HV := qh hV
  have HR := qh (rright8_any u g f t w)
  rw [hV] at HR
  clear hV
  go_enter Tryz.func9, Tryz.ntmps9
  go_wp2_with fail
  refine HR.out.mono ?_
  rintro e w2 ⟨rfl, rfl⟩
  cases V with
  | false =>
    go_wp2_with fail
    go_ret2
    exact ⟨Below.refl _ _, .inr ⟨HV.out, rfl⟩⟩
  | true =>
    have h := HV.out
    simp only [Bool.and_eq_true, decide_eq_true_eq] at h
    obtain ⟨gn, rfl⟩ := Int.eq_ofNat_of_zero_le (show 0 ≤ g by omega)
    obtain ⟨fn, rfl⟩ := Int.eq_ofNat_of_zero_le (show 0 ≤ f by omega)
    obtain ⟨tn, rfl⟩ := Int.eq_ofNat_of_zero_le (show 0 ≤ t by omega)
    have HH := qh h
    clear h HR
    go_wp2_with fail
    go_ret2
    have h := HH.out
    have hrow := row_at w2 (rmCells ⟨u, gn, fn, tn⟩ 0 gn 0 0 Ak.zero (none, 0, 0) (none, 0, 0) (none, 0, 0)) 61 w2.heap.size rfl
    refine ⟨(Below.refl _ _).alloc (zq _) _, .inl ⟨⟨u, gn, fn, tn⟩, rfl, rfl, rfl, rfl, ?_, rfl, by simp, fun S hS hb => ⟨0, gn, 0, 0, Ak.zero, (none, 0, 0), (none, 0, 0), (none, 0, 0), [], ⟨hrow, ⟨rfl, zq _, Nat.zero_le _, Lies.nil _ _, rfl, zq _, Nat.zero_le _, Lies.nil _ _⟩, rfl, zq _, Nat.zero_le _, Lies.nil _ _, hS, hb, fun _ _ _ e => by (cases e), fun _ _ _ e => by (cases e), fun _ _ _ e => by (cases e), by omega, by omega⟩, by simp, rfl⟩⟩⟩
    simp only [Ms.right, Bool.and_eq_true, decide_eq_true_eq]
    omega
structure DoesAt (w0 w : World) (ql qr : Nat) (c : Cfg) (m n : Mst) : Prop where
  at_ : ∃ S D, LMAt w S ql D c m ∧ RMAt w S qr c n ∧ D ≠ qr ∧ (D = ql ∨ w0.heap.size ≤ D)
  okl : Ms.Ok c m.st
  okr : Ms.Ok c n.st
  up : Below w0.heap.size w0 w
  hl : w0.heap.size ≤ ql
  hr : w0.heap.size ≤ qr
  ne : ql ≠ qr
section
variable {w0 w w' : World} {ql qr : Nat} {c : Cfg} {m n : Mst}
theorem DoesAt.below (x : DoesAt w0 w ql qr c m n) (hb : Below w.heap.size w w') : DoesAt w0 w' ql qr c m n := by
  obtain ⟨⟨S, D, h1, h2, h3, h4⟩, h5, h5', h6, h7, h8, h9⟩ := x
  exact ⟨⟨S, D, h1.below hb, h2.below hb, h3, h4⟩, h5, h5', h6.trans (hb.mono h6.size), h7, h8, h9⟩
theorem DoesAt.lstart (x : DoesAt w0 w ql qr c m n) (hc : Ms.right c = true) (a : Ask) (h k : Hd) (ha : AskIn w a h k) :
    Calls Tryz.prog 16 #[.pointer (some ⟨ql, 0, none⟩), askV a h k] w fun e w' => e = .returned (.int .i64 (((Ms.start m a).2 : Nat) : Int)) ∧ DoesAt w0 w' ql qr c (Ms.start m a).1 n := by
  obtain ⟨⟨S, D, h1, h2, h3, h4⟩, h5, h5', h6, h7, h8, h9⟩ := x
  have hs := cfg_small hc
  refine (start8_any S ql D c m a h k w h1 ha).mono fun e w' ⟨he, hm, hb⟩ => ⟨he, ⟨S, D, hm, h2.but hb (fun g hg => List.mem_singleton.1 hg ▸ h1.sq) (fun hg => h9 (List.mem_singleton.1 hg).symm), h3, h4⟩, h5.start a hs.2.2.1 hs.2.2.2.2.1, h5', but_up h6 hb h7, h7, h8, h9⟩
theorem DoesAt.rstart (x : DoesAt w0 w ql qr c m n) (hc : Ms.right c = true) (a : Ask) (h k : Hd) (ha : AskIn w a h k) :
    Calls Tryz.prog 17 #[.pointer (some ⟨qr, 0, none⟩), askV a h k] w fun e w' => e = .returned (.int .i64 (((Ms.start n a).2 : Nat) : Int)) ∧ DoesAt w0 w' ql qr c m (Ms.start n a).1 := by
  obtain ⟨⟨S, D, h1, h2, h3, h4⟩, h5, h5', h6, h7, h8, h9⟩ := x
  have hs := cfg_small hc
  refine (rstart8_any S qr c n a h k w h2 ha).mono fun e w' ⟨he, hm, hb⟩ => ⟨he, ⟨S, D, h1.but hb (fun g hg => List.mem_singleton.1 hg ▸ h2.sq) (fun hg => h9 (List.mem_singleton.1 hg)) (fun hg => h3 (List.mem_singleton.1 hg)), hm, h3, h4⟩, h5, h5'.start a hs.2.2.1 hs.2.2.2.2.1, but_up h6 hb h8, h7, h8, h9⟩
theorem DoesAt.ltake (x : DoesAt w0 w ql qr c m n) (A : Option Addr) (k cc : Nat) (b : List UInt8) (hk : b.length = k) (hkc : k ≤ cc) (hm : k ≤ 100000) (hb0 : Lies u8v w0 A b) :
    Calls Tryz.prog 18 #[.pointer (some ⟨ql, 0, none⟩), .slice A k cc] w fun e w' => e = .returned (.tuple #[]) ∧ DoesAt w0 w' ql qr c (Ms.take m b) n := by
  obtain ⟨⟨S, D, h1, h2, h3, h4⟩, h5, h5', h6, h7, h8, h9⟩ := x
  have hq := h2.state.2
  refine (take8_any S ql D c m A k cc b hk hkc hm w h1 (fun g o s e h0 => by have := lies_old hb0 g o s e h0; omega) (hb0.below h6 (zq _))).mono fun e w' ⟨he, hb, D', hD', hm'⟩ => ⟨he, ⟨_, D', hm', h2.wideBut hb (fun g hg => ?_) (fun hg => ?_) (.inl h2.sq) (fun g hg => ?_) hm'.all.2.2, ?_, ?_⟩, h5.take b, h5', but_up2 h6 hb h7 ?_, h7, h8, h9⟩
  · rcases List.mem_cons.1 hg with rfl | hg
    · exact h1.sq
    · exact List.mem_singleton.1 hg ▸ h1.all.2.1
  · rcases List.mem_cons.1 hg with hg | hg
    · exact h9 hg.symm
    · exact h3 (List.mem_singleton.1 hg).symm
  · rcases hg with hg | rfl
    · exact .inl hg
    · rcases hD' with rfl | hg
      · exact .inl h1.all.2.1
      · exact .inr hg
  · rcases hD' with rfl | hg
    · exact h3
    · omega
  · rcases hD' with rfl | hg
    · exact h4
    · exact .inr (Nat.le_trans h6.size hg)
  · rcases h4 with rfl | hg
    · exact h7
    · exact hg
theorem DoesAt.rtake (x : DoesAt w0 w ql qr c m n) (A : Option Addr) (k cc : Nat) (b : List UInt8) (hk : b.length = k) (hkc : k ≤ cc) (hm : k ≤ 100000) (hb0 : Lies u8v w0 A b) :
    Calls Tryz.prog 19 #[.pointer (some ⟨qr, 0, none⟩), .slice A k cc] w fun e w' => e = .returned (.tuple #[]) ∧ DoesAt w0 w' ql qr c m (Ms.take n b) := by
  obtain ⟨⟨S, D, h1, h2, h3, h4⟩, h5, h5', h6, h7, h8, h9⟩ := x
  refine (rtake8_any S qr c n A k cc b hk hkc hm w h2 (fun g o s e h0 => by have := lies_old hb0 g o s e h0; omega) h5' (hb0.below h6 (zq _))).mono fun e w' ⟨he, hm, hb⟩ => ⟨he, ⟨S, D, h1.but hb (fun g hg => List.mem_singleton.1 hg ▸ h2.sq) (fun hg => h9 (List.mem_singleton.1 hg)) (fun hg => h3 (List.mem_singleton.1 hg)), hm, h3, h4⟩, h5, h5'.take b, but_up h6 hb h8, h7, h8, h9⟩
structure Told (w : World) (bs : List UInt8) (o : MOut) (B : Option Addr) (n cc : Nat) (h k t : Hd) : Prop where
  hn : bs.length = n
  hc : n ≤ cc
  hm : cc ≤ maxLen
  hl : Lies u8v w B bs
  hx : AnsIn w (Ms.ans o) h k t
theorem Told.kept {w w' : World} {bs : List UInt8} {o : MOut} {B : Option Addr} {n cc : Nat} {h k t : Hd} (x : Told w bs o B n cc h k t) (hk : Kept w w') : Told w' bs o B n cc h k t :=
  ⟨x.hn, x.hc, x.hm, x.hl.kept (fun _ => rfl) hk, x.hx.kept hk⟩
theorem DoesAt.ltick (x : DoesAt w0 w ql qr c m n) (hc : Ms.right c = true) {m' : Mst} {bs : List UInt8} {o : MOut} (ht : Ms.tick c m = (m', bs, o)) :
    Calls Tryz.prog 12 #[.pointer (some ⟨ql, 0, none⟩)] w fun e w' => ∃ (B : Option Addr) (n' cc : Nat) (KK xe : Int) (h k t : Hd), e = .returned (.tuple #[.slice B n' cc, .agg #[.int .i64 KK, .int .i64 xe, .slice h.1 h.2.1 h.2.2, .slice k.1 k.2.1 k.2.2, .slice t.1 t.2.1 t.2.2]]) ∧ ((Ms.kind o : Nat) : Int) = KK ∧ (Ms.ans o).exc = xe ∧ Told w' bs o B n' cc h k t ∧ DoesAt w0 w' ql qr c m' n := by
  obtain ⟨⟨S, D, h1, h2, h3, h4⟩, h5, h5', h6, h7, h8, h9⟩ := x
  have hs := cfg_small hc
  have h5 := h5.tick (m := m) hs.2.2.1
  rw [ht] at h5
  refine (ltick8 w hc h1 (by assumption) ht).mono fun e w' ⟨B, n', cc, KK, xe, h, k, t, he, hk, hx, a1, a2, a3, a4, a5, hm, hb⟩ => ⟨B, n', cc, KK, xe, h, k, t, he, hk, hx, ⟨a1, a2, a3, a4, a5⟩, ⟨S, D, hm, h2.but hb (fun g hg => List.mem_singleton.1 hg ▸ h1.sq) (fun hg => h9 (List.mem_singleton.1 hg).symm), h3, h4⟩, h5, h5', but_up h6 hb h7, h7, h8, h9⟩
theorem DoesAt.rtick (x : DoesAt w0 w ql qr c m n) (hc : Ms.right c = true) {n' : Mst} {bs : List UInt8} {o : MOut} (ht : Ms.tick c n = (n', bs, o)) :
    Calls Tryz.prog 13 #[.pointer (some ⟨qr, 0, none⟩)] w fun e w' => ∃ (B : Option Addr) (j cc : Nat) (KK : Int) (h k t : Hd), e = .returned (.tuple #[.slice B j cc, .int .i64 KK, ansV (Ms.ans o) h k t]) ∧ ((Ms.kind o : Nat) : Int) = KK ∧ Told w' bs o B j cc h k t ∧ DoesAt w0 w' ql qr c m n' ∧ Kept w w' ∧ But [qr] w w' := by
  obtain ⟨⟨S, D, h1, h2, h3, h4⟩, h5, h5', h6, h7, h8, h9⟩ := x
  have hs := cfg_small hc
  have hok := h5'.tick (m := n) hs.2.2.1
  have := rtick8_any S qr c n w hc h2 h5'
  rw [ht] at this hok
  refine this.mono fun e w' ⟨B, n', cc, h, k, t, he, ht, hm, hb, hk⟩ => ⟨B, n', cc, _, h, k, t, he, rfl, ⟨ht.bn, ht.bc, ht.bm, ht.bl, ht.xi⟩, ⟨⟨S, D, h1.but hb (fun g hg => List.mem_singleton.1 hg ▸ h2.sq) (fun hg => h9 (List.mem_singleton.1 hg)) (fun hg => h3 (List.mem_singleton.1 hg)), hm, h3, h4⟩, h5, hok, but_up h6 hb h8, h7, h8, h9⟩, hk, hb⟩
theorem DoesAt.lbusy (x : DoesAt w0 w ql qr c m n) :
    Calls Tryz.prog 20 #[.pointer (some ⟨ql, 0, none⟩)] w fun e w' => e = .returned (.bool (Ms.code m.st != 0)) ∧ w' = w := by
  obtain ⟨⟨S, D, h1, -⟩, -⟩ := x
  exact lbusy8 w h1
theorem DoesAt.rstate (x : DoesAt w0 w ql qr c m n) : w.cell? ⟨qr, 4, none⟩ = some (.int .i64 ((Ms.code n.st : Nat) : Int)) ∧ qr < w.heap.size := by
  obtain ⟨⟨S, D, -, h2, -⟩, -⟩ := x
  exact h2.state
end
end Go.Proofs.YtlgmjnjhdamknaaGreat
