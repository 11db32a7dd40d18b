
/-
  The landed ask: Writes; whether a request fits a layout.
-/
import Derived.Test.YtlgmjnjhdamknaaGreatLn
import Derived.Test.YtlgmjnjhdamknaaGreatRask2
import Derived.Test.YtlgmjnjhdamknaaGreatRparse
namespace Go.Proofs.YtlgmjnjhdamknaaGreat
open Go.RowKit Go.Shelf

theorem AskIn.lth {w : World} {a : Ask} {h k : Option Addr × Nat × Nat} (x : AskIn w a h k) : (∀ b o s, h.1 = some ⟨b, o, s⟩ → 0 < h.2.1 → b < w.heap.size) ∧ (∀ b o s, k.1 = some ⟨b, o, s⟩ → 0 < k.2.1 → b < w.heap.size) := by
  refine ⟨fun b o s e h0 => ?_, fun b o s e h0 => ?_⟩
  · obtain ⟨b', o', e', hb, _⟩ := x.hl.at_ (by rw [x.hn]; exact h0)
    rw [e] at e'
    cases e'
    exact hb
  · obtain ⟨b', o', e', hb, _⟩ := x.kl.at_ (by rw [x.kn]; exact h0)
    rw [e] at e'
    cases e'
    exact hb
theorem askV_cells (a : Ask) (h k : Option Addr × Nat × Nat) : askV a h k = .agg (askCells a h k) := rfl

set_option maxRecDepth 100000 in
set_option maxHeartbeats 1000000 in
theorem fits6_any (lo : Nat) (w0 W : World) (L : LK) (hps : L.parts.length ≤ 4) (v : Value) (hL : LayIn lo w0 L v) (hW : Below w0.heap.size w0 W) (a : Ask) (h k : Option Addr × Nat × Nat) (ha : AskIn W a h k) :
    Calls Tryz.prog 63 #[v, askV a h k] W fun e w' => e = .returned (.bool (L.fits a)) ∧ Below W.heap.size W w' := by
  obtain ⟨A, n, c, b, m, g, pvs, rfl, h1, h2, h3, h4, h5, h6, h7, h8, h9, h10⟩ := hL.since (Since.of_below hW)
  have hpl := h10.length
  -- the worlds behind the boxes
  have hbA : Below W.heap.size W ((W.alloc (.cells #[.slice A n c, .slice (some ⟨b, 0, none⟩) m m, .func (.func g) #[] #[]] 98)).alloc (.cells #[.int .i64 a.code, .int .i64 a.addr, .int .i64 a.count, .int .i64 a.to, .slice h.1 h.2.1 h.2.2, .slice k.1 k.2.1 k.2.2, u16v a.and_, u16v a.or_] 40)) := ((Below.refl _ W).alloc (Nat.le_refl _) _).alloc (by simp) _
  have hrl := row_at W #[.slice A n c, .slice (some ⟨b, 0, none⟩) m m, .func (.func g) #[] #[]] 98 W.heap.size rfl
  have hrl := old_at hrl (.cells #[.int .i64 a.code, .int .i64 a.addr, .int .i64 a.count, .int .i64 a.to, .slice h.1 h.2.1 h.2.2, .slice k.1 k.2.1 k.2.2, u16v a.and_, u16v a.or_] 40)
  have hra := row_at (W.alloc (.cells #[.slice A n c, .slice (some ⟨b, 0, none⟩) m m, .func (.func g) #[] #[]] 98)) #[.int .i64 a.code, .int .i64 a.addr, .int .i64 a.count, .int .i64 a.to, .slice h.1 h.2.1 h.2.2, .slice k.1 k.2.1 k.2.2, u16v a.and_, u16v a.or_] 40 (W.heap.size + 1) (by simp)
  have hsz : ((W.alloc (.cells #[.slice A n c, .slice (some ⟨b, 0, none⟩) m m, .func (.func g) #[] #[]] 98)).alloc (.cells #[.int .i64 a.code, .int .i64 a.addr, .int .i64 a.count, .int .i64 a.to, .slice h.1 h.2.1 h.2.2, .slice k.1 k.2.1 k.2.2, u16v a.and_, u16v a.or_] 40)).heap.size = W.heap.size + 1 + 1 := by simp
  rw [askV_eq]
  go_enter Tryz.func63, Tryz.ntmps63
  go_wp2_with fail
  generalize hW2 : ((W.alloc (.cells #[.slice A n c, .slice (some ⟨b, 0, none⟩) m m, .func (.func g) #[] #[]] 98)).alloc (.cells #[.int .i64 a.code, .int .i64 a.addr, .int .i64 a.count, .int .i64 a.to, .slice h.1 h.2.1 h.2.2, .slice k.1 k.2.1 k.2.2, u16v a.and_, u16v a.or_] 40)) = W2 at *
  have hr8 := row_later h8 hbA
  have hpa := h10.since (Since.of_below hbA)
  have ha2 := ha.below hbA
  have hlt := ha.lth
  have hH : Hid (W2.heap.size = W.heap.size + 1 + 1) := Lib.hid hsz
  have hx0 : AskAt (W2.alloc (.cells #[.int .i64 a.code, .int .i64 a.addr, .int .i64 a.count, .int .i64 a.to, .slice h.1 h.2.1 h.2.2, .slice k.1 k.2.1 k.2.2, u16v a.and_, u16v a.or_] 40)) (W.heap.size + 1 + 1) (fun b => b = W.heap.size + 1 + 1) a h k :=
    ⟨row_at W2 _ _ _ hsz, ha2.below ((Below.refl _ _).alloc (Nat.le_refl _) _), rfl, fun b hs => by have hs' : b = W.heap.size + 1 + 1 := hs; simp only [World.size_alloc]; omega, fun b o s e h0 hs => by have hs' : b = W.heap.size + 1 + 1 := hs; have := hlt.1 b o s e h0; omega, fun b o s e h0 hs => by have hs' : b = W.heap.size + 1 + 1 := hs; have := hlt.2 b o s e h0; omega⟩
  have hbe0 : Below W2.heap.size W2 (W2.alloc (.cells #[.int .i64 a.code, .int .i64 a.addr, .int .i64 a.count, .int .i64 a.to, .slice h.1 h.2.1 h.2.2, .slice k.1 k.2.1 k.2.2, u16v a.and_, u16v a.or_] 40)) := (Below.refl _ _).alloc (Nat.le_refl _) _
  clear hW2 hsz h8 h10 h5 h6 h7 h3 h4 h1 hL hlt
  have HFit : Hid (L.fits a = (L.parts.all (fun p => p.fits a) && Ak.same (LK.dropped L.parts a) { Ak.zero with code := a.code })) := Lib.hid rfl
  have HM := Lib.hid h2
  have HPL := Lib.hid hpl
  have hm4 : m ≤ 4 := by omega
  clear h2 hpl hps
  go_loopw [7, 12] (fun _ i wr => ∃ j : Nat, j ≤ m ∧ i = .int .i64 j ∧ ∃ h' k', AskAt wr (W.heap.size + 1 + 1) (fun b => b = W.heap.size + 1 + 1) (LK.dropped (L.parts.take j) a) h' k' ∧ Hid ((L.parts.take j).all (fun p => p.fits a) = true) ∧ Below W2.heap.size W2 wr) (fun _ i _ => m - (intOf i).toNat)
  case atStart => exact ⟨0, Nat.zero_le _, rfl, h, k, hx0, Lib.hid rfl, hbe0⟩
  case round =>
    clear hx0 hbe0
    obtain ⟨j, hj, rfl, h', k', hx, HA, hbe⟩ := hrel
    have z2 := hbe.size
    have hl1 : W.heap.size + 1 < wr.heap.size := row_lt (row_later hra hbe)
    obtain ⟨r0, r1, r2, r3, r4, r5, r6, r7⟩ := row_eight (row_later hra hbe)
    by_cases hjm : j < m
    · have hj1 : j < L.parts.length := by have := HM.out; omega
      have hj2 : j < pvs.length := by have := HPL.out; omega
      have P := hpa.get j hj1 hj2 W2 (Since.refl _ _)
      have hrow := row_later hr8 hbe
      have hcl : ∀ i, i < 4 → wr.cell? ⟨b, 4 * j + i, none⟩ = pvs[j].cells[i]? := fun i hi => by
        rw [cell_of_row _ _ _ _ _ _ hrow, ← PV.cells_get pvs j i hj2 hi]
        simp
      have HD := Lib.hid (LK.dropped_take L.parts a j hj1)
      have HAT := Lib.hid (LK.all_take L.parts a j hj1)
      have HNO := Lib.hid (LK.all_not L.parts a j hj1)
      generalize L.parts[j] = p at *
      generalize pvs[j] = v at *
      obtain ⟨g1, g2, g3, g4, l1, l2, l3, l4⟩ := v
      have e0 : wr.cell? ⟨b, j * 4, none⟩ = some (.func (.func g1) #[] l1) := by have := hcl 0 (by omega); rw [Nat.mul_comm] at this; exact this
      have e1 : wr.cell? ⟨b, j * 4 + 1, none⟩ = some (.func (.func g2) #[] l2) := by have := hcl 1 (by omega); rw [Nat.mul_comm] at this; exact this
      have e2 : wr.cell? ⟨b, j * 4 + 2, none⟩ = some (.func (.func g3) #[] l3) := by have := hcl 2 (by omega); rw [Nat.mul_comm] at this; exact this
      have e3 : wr.cell? ⟨b, j * 4 + 3, none⟩ = some (.func (.func g4) #[] l4) := by have := hcl 3 (by omega); rw [Nat.mul_comm] at this; exact this
      have eg1 := P.e1
      have eg4 := P.e4
      unfold Enters at eg1 eg4
      dsimp only at eg1 eg4
      have HC1 : Hid (∀ X, Below W2.heap.size W2 X → Calls Tryz.prog g1 (#[.agg #[.int .i64 a.code, .int .i64 a.addr, .int .i64 a.count, .int .i64 a.to, .slice h.1 h.2.1 h.2.2, .slice k.1 k.2.1 k.2.2, u16v a.and_, u16v a.or_]] ++ l1) X fun e w' => e = .returned (.bool (p.fits a)) ∧ Below X.heap.size X w') := Lib.hid (fun X hX => P.c1 X hX a h k (ha2.below hX))
      have HC4 := Lib.hid P.c4
      dsimp only at HC4
      have i1 : (j : Int) < (m : Int) := by omega
      have hbp : Below W2.heap.size W2 (wr.alloc (.cells #[.func (.func g1) #[] l1, .func (.func g2) #[] l2, .func (.func g3) #[] l3, .func (.func g4) #[] l4] 122)) := hbe.alloc z2 _
      have hrp := row_at wr #[.func (.func g1) #[] l1, .func (.func g2) #[] l2, .func (.func g3) #[] l3, .func (.func g4) #[] l4] 122 wr.heap.size rfl
      have hxp := hx.below ((Below.refl _ wr).alloc (Nat.le_refl _) (.cells #[.func (.func g1) #[] l1, .func (.func g2) #[] l2, .func (.func g3) #[] l3, .func (.func g4) #[] l4] 122))
      clear hcl hrow P hx
      cases hf : p.fits a with
      | false =>
        have HF := Lib.hid hf
        rw [hf] at HC1
        clear hf
        go_wp2_with (first | (go_at_fn g1; refine (HC1.out _ hbp).mono ?_; rintro e w3 ⟨rfl, hb3⟩) | fail)
        go_ret
        refine ⟨?_, hbA.trans ((hbp.trans (hb3.mono hbp.size)).mono hbA.size)⟩
        rw [HFit.out, HNO.out HF.out]
        rfl
      | true =>
        have HF := Lib.hid hf
        rw [hf] at HC1
        clear hf
        go_wp2_with (first | (go_at_fn g1; refine (HC1.out _ hbp).mono ?_; rintro e w3 ⟨rfl, hb3⟩; have hrp3 := row_four (row_later hrp hb3); obtain ⟨y0, y1, y2, y3, _⟩ := hrp3; have hx3 := hxp.below hb3; have hb3' := hbp.trans (hb3.mono hbp.size)) | (go_at_fn g4; refine (HC4.out _ hb3' _ _ _ _ _ (by rw [hH.out]; exact Nat.le_refl _) hx3).mono ?_; rintro e w4 ⟨⟨vv, rfl⟩, h4', k4', hx4, hb4⟩) | fail)
        go_roundw
        case rel =>
          refine ⟨j + 1, by omega, by go_num, h4', k4', ?_, Lib.hid ?_, ?_⟩
          · rw [HD.out]; exact hx4
          · rw [HAT.out, HA.out, HF.out]; rfl
          · exact hb3'.trans (hb4.below (fun k hk => by rw [List.mem_singleton.1 hk, hH.out]; exact Nat.le_refl _) (by have := hb3'.size; omega))
        case measure => simp [intOf]; omega
    · obtain rfl : j = m := by omega
      have HTK : Hid (L.parts.take j = L.parts) := Lib.hid (by rw [← HM.out, List.take_length])
      rw [HTK.out] at hx HA
      have hz := hbe.size
      obtain ⟨s0, s1, s2, s3, s4, s5, s6, s7⟩ := row_eight hx.row
      have hz0 : AskIn wr { Ak.zero with code := a.code } (none, 0, 0) (none, 0, 0) := ⟨rfl, Nat.le_refl _, Nat.zero_le _, Lies.nil _ _, rfl, Nat.le_refl _, Nat.zero_le _, Lies.nil _ _⟩
      have HS : Hid (Calls Tryz.prog 106 #[askV (LK.dropped L.parts a) h' k', askV { Ak.zero with code := a.code } (none, 0, 0) (none, 0, 0)] wr fun e w' => e = .returned (.bool (L.fits a)) ∧ Below wr.heap.size wr w') := Lib.hid (by
        have hs := same6_any (LK.dropped L.parts a) { Ak.zero with code := a.code } h' k' (none, 0, 0) (none, 0, 0) wr hx.ins hz0
        rw [HFit.out, HA.out, Bool.true_and]
        exact hs)
      rw [askV_eq, show askV { Ak.zero with code := a.code } (none, 0, 0) (none, 0, 0) = .agg #[.int .i64 a.code, .int .i64 0, .int .i64 0, .int .i64 0, .slice none 0 0, .slice none 0 0, .int .u16 0, .int .u16 0] from rfl] at HS
      clear HFit HA hx HTK
      generalize LK.dropped L.parts a = D at *
      go_wp2_with fail
      refine HS.out.mono ?_
      rintro e w3 ⟨rfl, hb3⟩
      go_wp2_with fail
      go_ret
      exact ⟨rfl, hbA.trans ((hbe.trans (hb3.mono hbe.size)).mono hbA.size)⟩
end Go.Proofs.YtlgmjnjhdamknaaGreat

/-
  The landed ask: the bytes of a request that fits.
-/
namespace Go.Proofs.YtlgmjnjhdamknaaGreat
open Go.RowKit Go.Shelf

theorem LK.outs_le (ps : List PK) (a : Ask) (j : Nat) : (LK.outs (ps.take j) a).length ≤ (LK.outs ps a).length := by
  conv => rhs; rw [← List.take_append_drop j ps]
  unfold LK.outs
  rw [List.flatMap_append, List.length_append]
  omega
/-- What lay leaves. -/
def LaidPost (w : World) (l : List UInt8) (e : Ending) (w' : World) : Prop := ∃ A n c, e = .returned (.slice A n c) ∧ l.length = n ∧ w'.ownsRow w.heap.size 5 1 (.slice A n c) n (l.map u8v) ∧ Below w.heap.size w w'

set_option maxRecDepth 100000 in
set_option maxHeartbeats 1000000 in
theorem lay6_any (lo : Nat) (w0 W : World) (L : LK) (hps : L.parts.length ≤ 4) (v : Value) (hL : LayIn lo w0 L v) (hW : Below w0.heap.size w0 W) (a : Ask) (h k : Option Addr × Nat × Nat) (ha : AskIn W a h k)
    (hfit : ∀ p ∈ L.parts, p.fits a = true) (hbd : (L.begin_ ++ LK.outs L.parts a).length ≤ 10000) :
    Calls Tryz.prog 43 #[v, askV a h k] W (LaidPost W (L.begin_ ++ LK.outs L.parts a)) := by
  obtain ⟨A, n, c, b, m, g, pvs, rfl, h1, h2, h3, h4, h5, h6, h7, h8, h9, h10⟩ := hL.since (Since.of_below hW)
  have hpl := h10.length
  -- the worlds behind the boxes
  have hbA : Below W.heap.size W ((W.alloc (.cells #[.slice A n c, .slice (some ⟨b, 0, none⟩) m m, .func (.func g) #[] #[]] 98)).alloc (.cells #[.int .i64 a.code, .int .i64 a.addr, .int .i64 a.count, .int .i64 a.to, .slice h.1 h.2.1 h.2.2, .slice k.1 k.2.1 k.2.2, u16v a.and_, u16v a.or_] 40)) := ((Below.refl _ W).alloc (Nat.le_refl _) _).alloc (by simp) _
  have hrl := row_at W #[.slice A n c, .slice (some ⟨b, 0, none⟩) m m, .func (.func g) #[] #[]] 98 W.heap.size rfl
  have hrl := old_at hrl (.cells #[.int .i64 a.code, .int .i64 a.addr, .int .i64 a.count, .int .i64 a.to, .slice h.1 h.2.1 h.2.2, .slice k.1 k.2.1 k.2.2, u16v a.and_, u16v a.or_] 40)
  have hra := row_at (W.alloc (.cells #[.slice A n c, .slice (some ⟨b, 0, none⟩) m m, .func (.func g) #[] #[]] 98)) #[.int .i64 a.code, .int .i64 a.addr, .int .i64 a.count, .int .i64 a.to, .slice h.1 h.2.1 h.2.2, .slice k.1 k.2.1 k.2.2, u16v a.and_, u16v a.or_] 40 (W.heap.size + 1) (by simp)
  have hsz : ((W.alloc (.cells #[.slice A n c, .slice (some ⟨b, 0, none⟩) m m, .func (.func g) #[] #[]] 98)).alloc (.cells #[.int .i64 a.code, .int .i64 a.addr, .int .i64 a.count, .int .i64 a.to, .slice h.1 h.2.1 h.2.2, .slice k.1 k.2.1 k.2.2, u16v a.and_, u16v a.or_] 40)).heap.size = W.heap.size + 1 + 1 := by simp
  rw [askV_eq]
  generalize hW2 : ((W.alloc (.cells #[.slice A n c, .slice (some ⟨b, 0, none⟩) m m, .func (.func g) #[] #[]] 98)).alloc (.cells #[.int .i64 a.code, .int .i64 a.addr, .int .i64 a.count, .int .i64 a.to, .slice h.1 h.2.1 h.2.2, .slice k.1 k.2.1 k.2.2, u16v a.and_, u16v a.or_] 40)) = W2 at *
  have hr8 := row_later h8 hbA
  have hpa := h10.since (Since.of_below hbA)
  have ha2 := ha.below hbA
  have hH : Hid (W2.heap.size = W.heap.size + 1 + 1) := Lib.hid hsz
  have HCL := Lib.hid (clone_any A n c L.begin_ h1 (by have := hbd; rw [List.length_append] at this; omega) W2 (h5.below hbA (Nat.le_refl _)))
  have HFT := Lib.hid hfit
  have HBD := Lib.hid hbd
  have HM := Lib.hid h2
  have HPL := Lib.hid hpl
  have hm4 : m ≤ 4 := by omega
  have HZ := Lib.hid hbA.size
  obtain ⟨q0, q1, q2, _⟩ := row_tri hrl
  clear h8 h10 h5 h6 h7 h3 h4 h1 hL hps h2 hpl hfit hbd
  go_enter Tryz.func43, Tryz.ntmps43
  go_wp2_with fail
  clear hW2 hsz
  refine HCL.out.mono ?_
  rintro e w3 ⟨A3, n3, c3, rfl, k1, k2, hb3⟩
  have hl0 : W.heap.size < w3.heap.size := row_lt (row_later hrl hb3)
  obtain ⟨q0, q1, q2, _⟩ := row_tri (row_later hrl hb3)
  go_wp2_with fail
  go_loopw [5, 7, 14] (fun bv _ i wr => ∃ j : Nat, j ≤ m ∧ i = .int .i64 j ∧ ∃ A' n' c', bv = .slice A' n' c' ∧ Hid ((L.begin_ ++ LK.outs (L.parts.take j) a).length = n') ∧ wr.ownsRow W2.heap.size 5 1 (.slice A' n' c') n' ((L.begin_ ++ LK.outs (L.parts.take j) a).map u8v) ∧ Below W2.heap.size W2 wr) (fun _ _ i _ => m - (intOf i).toNat)
  case atStart => exact ⟨0, Nat.zero_le _, rfl, A3, n3, c3, rfl, Lib.hid (by simpa [LK.outs] using k1), by simpa [LK.outs] using k2, hb3⟩
  case round =>
    clear k1 k2 hb3 hl0 q0 q1 q2
    obtain ⟨j, hj, rfl, A', n', c', rfl, HN, hown, hbe⟩ := hrel
    have z2 := hbe.size
    have hl1 : W.heap.size + 1 < wr.heap.size := row_lt (row_later hra hbe)
    obtain ⟨r0, r1, r2, r3, r4, r5, r6, r7⟩ := row_eight (row_later hra hbe)
    by_cases hjm : j < m
    · have hj1 : j < L.parts.length := by have := HM.out; omega
      have hj2 : j < pvs.length := by have := HPL.out; omega
      have P := hpa.get j hj1 hj2 W2 (Since.refl _ _)
      have hrow := row_later hr8 hbe
      have hcl : ∀ i, i < 4 → wr.cell? ⟨b, 4 * j + i, none⟩ = pvs[j].cells[i]? := fun i hi => by
        rw [cell_of_row _ _ _ _ _ _ hrow, ← PV.cells_get pvs j i hj2 hi]
        simp
      have HO := Lib.hid (LK.outs_take L.parts a j hj1)
      have HF := Lib.hid (HFT.out _ (List.getElem_mem hj1))
      have HN2 : n' ≤ 10000 := by
        have h1 := HN.out
        have h2 := HBD.out
        have h3 := LK.outs_le L.parts a j
        rw [List.length_append] at h1 h2
        omega
      generalize L.parts[j] = p at *
      generalize pvs[j] = v at *
      obtain ⟨g1, g2, g3, g4, l1, l2, l3, l4⟩ := v
      have e0 : wr.cell? ⟨b, j * 4, none⟩ = some (.func (.func g1) #[] l1) := by have := hcl 0 (by omega); rw [Nat.mul_comm] at this; exact this
      have e1 : wr.cell? ⟨b, j * 4 + 1, none⟩ = some (.func (.func g2) #[] l2) := by have := hcl 1 (by omega); rw [Nat.mul_comm] at this; exact this
      have e2 : wr.cell? ⟨b, j * 4 + 2, none⟩ = some (.func (.func g3) #[] l3) := by have := hcl 2 (by omega); rw [Nat.mul_comm] at this; exact this
      have e3 : wr.cell? ⟨b, j * 4 + 3, none⟩ = some (.func (.func g4) #[] l4) := by have := hcl 3 (by omega); rw [Nat.mul_comm] at this; exact this
      have eg2 := P.e2
      unfold Enters at eg2
      dsimp only at eg2
      have i1 : (j : Int) < (m : Int) := by omega
      have hbp : Below W2.heap.size W2 (wr.alloc (.cells #[.func (.func g1) #[] l1, .func (.func g2) #[] l2, .func (.func g3) #[] l3, .func (.func g4) #[] l4] 122)) := hbe.alloc z2 _
      have HC2 : Hid (Calls Tryz.prog g2 (#[.slice A' n' c', .agg #[.int .i64 a.code, .int .i64 a.addr, .int .i64 a.count, .int .i64 a.to, .slice h.1 h.2.1 h.2.2, .slice k.1 k.2.1 k.2.2, u16v a.and_, u16v a.or_]] ++ l2) (wr.alloc (.cells #[.func (.func g1) #[] l1, .func (.func g2) #[] l2, .func (.func g3) #[] l3, .func (.func g4) #[] l4] 122)) fun e w' => ∃ A m c, e = .returned (.slice A m c) ∧ w'.ownsRow W2.heap.size 5 1 (.slice A m c) m ((L.begin_ ++ LK.outs (L.parts.take (j + 1)) a).map u8v) ∧ Below W2.heap.size W2 w') := Lib.hid ((P.c2 W2 _ (Below.refl _ _) hbp a h k ha2 HF.out W2.heap.size (.slice A' n' c') n' (L.begin_ ++ LK.outs (L.parts.take j) a) (hown.alloc _) (Nat.le_refl _) hbp.size HN2).mono fun e w' ⟨A, m, c, h1, h2, h3⟩ => ⟨A, m, c, h1, by rw [HO.out, ← List.append_assoc]; exact h2, hbp.trans h3⟩)
      clear hcl hrow P hown
      go_wp2_with (first | (go_at_fn g2; refine HC2.out.mono ?_; rintro e w4 ⟨A5, n5, c5, rfl, hown5, hb5⟩) | fail)
      go_roundw
      case rel =>
        exact ⟨j + 1, by omega, by go_num, A5, n5, c5, rfl, Lib.hid (by have := hown5.1; rw [List.length_map] at this; omega), hown5, hb5⟩
      case measure => simp [intOf]; omega
    · obtain rfl : j = m := by omega
      have HTK : Hid (L.parts.take j = L.parts) := Lib.hid (by rw [← HM.out, List.take_length])
      rw [HTK.out] at hown HN
      have hz := HZ.out
      go_wp2_with fail
      go_ret
      exact ⟨A', n', c', rfl, HN.out, own_lower hown hz, hbA.trans (hbe.mono hz)⟩
end Go.Proofs.YtlgmjnjhdamknaaGreat
