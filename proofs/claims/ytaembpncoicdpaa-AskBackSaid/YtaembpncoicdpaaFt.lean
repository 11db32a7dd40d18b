
/-
  The landed ask: Writes; whether a request fits a layout.
-/
import Derived.Test.YtaembpncoicdpaaLn
import Derived.Test.YtaembpncoicdpaaSm
import Derived.Test.YtaembpncoicdpaaRparse
namespace Go.Proofs.Ytaembpncoicdpaa
open Go.RowKit Go.Shelf

set_option maxRecDepth 100000 in
set_option maxHeartbeats 1000000 in
theorem writes6_any (c : Int) (w : World) :
    Calls Try.prog 13 #[.int .i64 c] w fun e w' => e = .returned (.bool (Ak.writes c)) ∧ Below w.heap.size w w' := by
  unfold Ak.writes
  go_enter Try.func13, Try.ntmps13
  go_wp2
  all_goals go_ret
  all_goals refine ⟨?_, Below.refl _ _⟩
  all_goals congr 2
  all_goals simp_all

theorem AskIn.lth {w : World} {a : Ask} {h k : Option Addr × Nat × Nat} (x : AskIn w a h k) : (∀ b o s, h.1 = some ⟨b, o, s⟩ → 0 < h.2.1 → b < w.heap.size) ∧ (∀ b o s, k.1 = some ⟨b, o, s⟩ → 0 < k.2.1 → b < w.heap.size) := by
  refine ⟨fun b o s e h0 => ?_, fun b o s e h0 => ?_⟩
  · obtain ⟨b', o', e', hb, _⟩ := x.hl.at_ (by rw [x.hn]; exact h0)
    rw [e] at e'
    cases e'
    exact hb
  · obtain ⟨b', o', e', hb, _⟩ := x.kl.at_ (by rw [x.kn]; exact h0)
    rw [e] at e'
    cases e'
    exact hb
theorem askV_cells (a : Ask) (h k : Option Addr × Nat × Nat) : askV a h k = .agg (askCells a h k) := rfl

set_option maxRecDepth 100000 in
set_option maxHeartbeats 1000000 in
theorem fits6_any (lo : Nat) (w0 W : World) (L : LK) (hps : L.parts.length ≤ 4) (v : Value) (hL : LayIn lo w0 L v) (hW : Below w0.heap.size w0 W) (a : Ask) (h k : Option Addr × Nat × Nat) (ha : AskIn W a h k) :
    Calls Try.prog 16 #[v, askV a h k] W fun e w' => e = .returned (.bool (L.fits a)) ∧ Below W.heap.size W w' := by
  obtain ⟨A, n, c, b, m, g, pvs, rfl, h1, h2, h3, h4, h5, h6, h7, h8, h9, h10⟩ := hL.since (Since.of_below hW)
  have hpl := h10.length
  -- the worlds behind the boxes
  have hbA : Below W.heap.size W ((W.alloc (.cells #[.slice A n c, .slice (some ⟨b, 0, none⟩) m m, .func (.func g) #[] #[]] 44)).alloc (.cells #[.int .i64 a.code, .int .i64 a.addr, .int .i64 a.count, .int .i64 a.to, .slice h.1 h.2.1 h.2.2, .slice k.1 k.2.1 k.2.2, u16v a.and_, u16v a.or_] 26)) := ((Below.refl _ W).alloc (Nat.le_refl _) _).alloc (by simp) _
  have hrl := row_at W #[.slice A n c, .slice (some ⟨b, 0, none⟩) m m, .func (.func g) #[] #[]] 44 W.heap.size rfl
  have hrl := old_at hrl (.cells #[.int .i64 a.code, .int .i64 a.addr, .int .i64 a.count, .int .i64 a.to, .slice h.1 h.2.1 h.2.2, .slice k.1 k.2.1 k.2.2, u16v a.and_, u16v a.or_] 26)
  have hra := row_at (W.alloc (.cells #[.slice A n c, .slice (some ⟨b, 0, none⟩) m m, .func (.func g) #[] #[]] 44)) #[.int .i64 a.code, .int .i64 a.addr, .int .i64 a.count, .int .i64 a.to, .slice h.1 h.2.1 h.2.2, .slice k.1 k.2.1 k.2.2, u16v a.and_, u16v a.or_] 26 (W.heap.size + 1) (by simp)
  have hsz : ((W.alloc (.cells #[.slice A n c, .slice (some ⟨b, 0, none⟩) m m, .func (.func g) #[] #[]] 44)).alloc (.cells #[.int .i64 a.code, .int .i64 a.addr, .int .i64 a.count, .int .i64 a.to, .slice h.1 h.2.1 h.2.2, .slice k.1 k.2.1 k.2.2, u16v a.and_, u16v a.or_] 26)).heap.size = W.heap.size + 1 + 1 := by simp
  rw [askV_eq]
  go_enter Try.func16, Try.ntmps16
  go_wp2_with fail
  generalize hW2 : ((W.alloc (.cells #[.slice A n c, .slice (some ⟨b, 0, none⟩) m m, .func (.func g) #[] #[]] 44)).alloc (.cells #[.int .i64 a.code, .int .i64 a.addr, .int .i64 a.count, .int .i64 a.to, .slice h.1 h.2.1 h.2.2, .slice k.1 k.2.1 k.2.2, u16v a.and_, u16v a.or_] 26)) = W2 at *
  have hr8 := row_later h8 hbA
  have hpa := h10.since (Since.of_below hbA)
  have ha2 := ha.below hbA
  have hlt := ha.lth
  have hH : Hid (W2.heap.size = W.heap.size + 1 + 1) := Lib.hid hsz
  have hx0 : AskAt (W2.alloc (.cells #[.int .i64 a.code, .int .i64 a.addr, .int .i64 a.count, .int .i64 a.to, .slice h.1 h.2.1 h.2.2, .slice k.1 k.2.1 k.2.2, u16v a.and_, u16v a.or_] 26)) (W.heap.size + 1 + 1) (fun b => b = W.heap.size + 1 + 1) a h k :=
    ⟨row_at W2 _ _ _ hsz, ha2.below ((Below.refl _ _).alloc (Nat.le_refl _) _), rfl, fun b hs => by have hs' : b = W.heap.size + 1 + 1 := hs; simp only [World.size_alloc]; omega, fun b o s e h0 hs => by have hs' : b = W.heap.size + 1 + 1 := hs; have := hlt.1 b o s e h0; omega, fun b o s e h0 hs => by have hs' : b = W.heap.size + 1 + 1 := hs; have := hlt.2 b o s e h0; omega⟩
  have hbe0 : Below W2.heap.size W2 (W2.alloc (.cells #[.int .i64 a.code, .int .i64 a.addr, .int .i64 a.count, .int .i64 a.to, .slice h.1 h.2.1 h.2.2, .slice k.1 k.2.1 k.2.2, u16v a.and_, u16v a.or_] 26)) := (Below.refl _ _).alloc (Nat.le_refl _) _
  clear hW2 hsz h8 h10 h5 h6 h7 h3 h4 h1 hL hlt
  have HFit : Hid (L.fits a = (L.parts.all (fun p => p.fits a) && Ak.same (LK.dropped L.parts a) { Ak.zero with code := a.code })) := Lib.hid rfl
  have HM := Lib.hid h2
  have HPL := Lib.hid hpl
  have hm4 : m ≤ 4 := by omega
  clear h2 hpl hps
  go_loopw [7, 12] (fun _ i wr => ∃ j : Nat, j ≤ m ∧ i = .int .i64 j ∧ ∃ h' k', AskAt wr (W.heap.size + 1 + 1) (fun b => b = W.heap.size + 1 + 1) (LK.dropped (L.parts.take j) a) h' k' ∧ Hid ((L.parts.take j).all (fun p => p.fits a) = true) ∧ Below W2.heap.size W2 wr) (fun _ i _ => m - (intOf i).toNat)
  case atStart => exact ⟨0, Nat.zero_le _, rfl, h, k, hx0, Lib.hid rfl, hbe0⟩
  case round =>
    clear hx0 hbe0
    obtain ⟨j, hj, rfl, h', k', hx, HA, hbe⟩ := hrel
    have z2 := hbe.size
    have hl1 : W.heap.size + 1 < wr.heap.size := row_lt (row_later hra hbe)
    obtain ⟨r0, r1, r2, r3, r4, r5, r6, r7⟩ := row_eight (row_later hra hbe)
    by_cases hjm : j < m
    · have hj1 : j < L.parts.length := by have := HM.out; omega
      have hj2 : j < pvs.length := by have := HPL.out; omega
      have P := hpa.get j hj1 hj2 W2 (Since.refl _ _)
      have hrow := row_later hr8 hbe
      have hcl : ∀ i, i < 4 → wr.cell? ⟨b, 4 * j + i, none⟩ = pvs[j].cells[i]? := fun i hi => by
        rw [cell_of_row _ _ _ _ _ _ hrow, ← PV.cells_get pvs j i hj2 hi]
        simp
      have HD := Lib.hid (LK.dropped_take L.parts a j hj1)
      have HAT := Lib.hid (LK.all_take L.parts a j hj1)
      have HNO := Lib.hid (LK.all_not L.parts a j hj1)
      generalize L.parts[j] = p at *
      generalize pvs[j] = v at *
      obtain ⟨g1, g2, g3, g4, l1, l2, l3, l4⟩ := v
      have e0 : wr.cell? ⟨b, j * 4, none⟩ = some (.func (.func g1) #[] l1) := by have := hcl 0 (by omega); rw [Nat.mul_comm] at this; exact this
      have e1 : wr.cell? ⟨b, j * 4 + 1, none⟩ = some (.func (.func g2) #[] l2) := by have := hcl 1 (by omega); rw [Nat.mul_comm] at this; exact this
      have e2 : wr.cell? ⟨b, j * 4 + 2, none⟩ = some (.func (.func g3) #[] l3) := by have := hcl 2 (by omega); rw [Nat.mul_comm] at this; exact this
      have e3 : wr.cell? ⟨b, j * 4 + 3, none⟩ = some (.func (.func g4) #[] l4) := by have := hcl 3 (by omega); rw [Nat.mul_comm] at this; exact this
      have eg1 := P.e1
      have eg4 := P.e4
      unfold Enters at eg1 eg4
      dsimp only at eg1 eg4
      have HC1 : Hid (∀ X, Below W2.heap.size W2 X → Calls Try.prog g1 (#[.agg #[.int .i64 a.code, .int .i64 a.addr, .int .i64 a.count, .int .i64 a.to, .slice h.1 h.2.1 h.2.2, .slice k.1 k.2.1 k.2.2, u16v a.and_, u16v a.or_]] ++ l1) X fun e w' => e = .returned (.bool (p.fits a)) ∧ Below X.heap.size X w') := Lib.hid (fun X hX => P.c1 X hX a h k (ha2.below hX))
      have HC4 := Lib.hid P.c4
      dsimp only at HC4
      have i1 : (j : Int) < (m : Int) := by omega
      have hbp : Below W2.heap.size W2 (wr.alloc (.cells #[.func (.func g1) #[] l1, .func (.func g2) #[] l2, .func (.func g3) #[] l3, .func (.func g4) #[] l4] 57)) := hbe.alloc z2 _
      have hrp := row_at wr #[.func (.func g1) #[] l1, .func (.func g2) #[] l2, .func (.func g3) #[] l3, .func (.func g4) #[] l4] 57 wr.heap.size rfl
      have hxp := hx.below ((Below.refl _ wr).alloc (Nat.le_refl _) (.cells #[.func (.func g1) #[] l1, .func (.func g2) #[] l2, .func (.func g3) #[] l3, .func (.func g4) #[] l4] 57))
      clear hcl hrow P hx
      cases hf : p.fits a with
      | false =>
        have HF := Lib.hid hf
        rw [hf] at HC1
        clear hf
        go_wp2_with (first | (go_at_fn g1; refine (HC1.out _ hbp).mono ?_; rintro e w3 ⟨rfl, hb3⟩) | fail)
        go_ret
        refine ⟨?_, hbA.trans ((hbp.trans (hb3.mono hbp.size)).mono hbA.size)⟩
        rw [HFit.out, HNO.out HF.out]
        rfl
      | true =>
        have HF := Lib.hid hf
        rw [hf] at HC1
        clear hf
        go_wp2_with (first | (go_at_fn g1; refine (HC1.out _ hbp).mono ?_; rintro e w3 ⟨rfl, hb3⟩; have hrp3 := row_four (row_later hrp hb3); obtain ⟨y0, y1, y2, y3, _⟩ := hrp3; have hx3 := hxp.below hb3; have hb3' := hbp.trans (hb3.mono hbp.size)) | (go_at_fn g4; refine (HC4.out _ hb3' _ _ _ _ _ (by rw [hH.out]; exact Nat.le_refl _) hx3).mono ?_; rintro e w4 ⟨⟨vv, rfl⟩, h4', k4', hx4, hb4⟩) | fail)
        go_roundw
        case rel =>
          refine ⟨j + 1, by omega, by go_num, h4', k4', ?_, Lib.hid ?_, ?_⟩
          · rw [HD.out]; exact hx4
          · rw [HAT.out, HA.out, HF.out]; rfl
          · exact hb3'.trans (hb4.below (fun k hk => by rw [List.mem_singleton.1 hk, hH.out]; exact Nat.le_refl _) (by have := hb3'.size; omega))
        case measure => simp [intOf]; omega
    · obtain rfl : j = m := by omega
      have HTK : Hid (L.parts.take j = L.parts) := Lib.hid (by rw [← HM.out, List.take_length])
      rw [HTK.out] at hx HA
      have hz := hbe.size
      obtain ⟨s0, s1, s2, s3, s4, s5, s6, s7⟩ := row_eight hx.row
      have hz0 : AskIn wr { Ak.zero with code := a.code } (none, 0, 0) (none, 0, 0) := ⟨rfl, Nat.le_refl _, Nat.zero_le _, Lies.nil _ _, rfl, Nat.le_refl _, Nat.zero_le _, Lies.nil _ _⟩
      have HS : Hid (Calls Try.prog 10 #[askV (LK.dropped L.parts a) h' k', askV { Ak.zero with code := a.code } (none, 0, 0) (none, 0, 0)] wr fun e w' => e = .returned (.bool (L.fits a)) ∧ Below wr.heap.size wr w') := Lib.hid (by
        have hs := same6_any (LK.dropped L.parts a) { Ak.zero with code := a.code } h' k' (none, 0, 0) (none, 0, 0) wr hx.ins hz0
        rw [HFit.out, HA.out, Bool.true_and]
        exact hs)
      rw [askV_eq, show askV { Ak.zero with code := a.code } (none, 0, 0) (none, 0, 0) = .agg #[.int .i64 a.code, .int .i64 0, .int .i64 0, .int .i64 0, .slice none 0 0, .slice none 0 0, .int .u16 0, .int .u16 0] from rfl] at HS
      clear HFit HA hx HTK
      generalize LK.dropped L.parts a = D at *
      go_wp2_with fail
      refine HS.out.mono ?_
      rintro e w3 ⟨rfl, hb3⟩
      go_wp2_with fail
      go_ret
      exact ⟨rfl, hbA.trans ((hbe.trans (hb3.mono hbe.size)).mono hbA.size)⟩
end Go.Proofs.Ytaembpncoicdpaa
