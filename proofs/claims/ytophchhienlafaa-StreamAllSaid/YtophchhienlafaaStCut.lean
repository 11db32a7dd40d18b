/-
  The landed stream: cut.
-/
import Derived.Test.YtophchhienlafaaStAdd
namespace Go.Proofs.Ytophchhienlafaa
open Go.RowKit

theorem Mb.codeB_two (b : List UInt8) : Mb.codeB b = 0 ∨ Mb.codeB b = 2 ∨ Mb.codeB b = 3 := by
  unfold Mb.codeB
  split
  · exact .inr (.inl rfl)
  · split
    · exact .inr (.inl rfl)
    · split
      · exact .inr (.inr rfl)
      · exact .inl rfl
theorem kitL : EKn Try.prog 30 45 (.agg #[.int .u16 0, .int .u8 0, .slice none 0 0]) 3 32 := ⟨Try.underlying30, by kernel_rfl, rfl, by omega⟩

/-- What cut leaves of a stream at g that holds b. -/
def CutPost (w : World) (g : Nat) (b : List UInt8) (bad : Bool) (e : Ending) (w' : World) : Prop :=
  ∃ A n k B r, e = .returned (.tuple #[.slice A n k, .int .i64 (if (Stm.cut b).2.2 then 2 else 3)]) ∧ w.heap.size ≤ B ∧ FrsOf (fun k => w.heap.size ≤ k ∧ k < B) w' A n k (Stm.cut b).1 ∧ ((Stm.cut b).2.2 = false → r = (Stm.cut b).2.1) ∧ StRow w' g r bad (fun k => B ≤ k) ∧ But [g] w w'

/-- What stands at the head of cut's loop. -/
def CutInv (w : World) (n0 : Nat) (b : List UInt8) (o dv : Value) (wr : World) : Prop :=
  ∃ (Ao : Option Addr) (no co d : Nat) (vs : List Value) (fs : List Fr), o = .slice Ao no co ∧ dv = .int .i64 d ∧ d ≤ n0 ∧ no ≤ d ∧ fs.length = no ∧ wr.ownsRow w.heap.size 45 3 (.slice Ao no co) no vs ∧ FrsIn (fun k => offRow Ao k ∧ w.heap.size ≤ k) wr vs fs ∧ Stm.cut b = (fs ++ (Stm.cut (b.drop d)).1, (Stm.cut (b.drop d)).2) ∧ Below w.heap.size w wr

theorem CutPost.mk {w w5 w6 : World} {g : Nat} {b : List UInt8} {bad bad2 : Bool} {r : List UInt8} {fs : List Fr} {vs : List Value} {A : Option Addr} {n k : Nat} {x : Int} (hcut : Stm.cut b = (fs, r, bad2) ∨ (Stm.cut b = (fs, [], true) ∧ bad2 = true)) (hx : x = if bad2 then 2 else 3) (hfs : fs.length = n)
    (hown : w5.ownsRow w.heap.size 45 3 (.slice A n k) n vs) (hfr : FrsIn (fun k => offRow A k ∧ w.heap.size ≤ k) w5 vs fs) (hb5 : Below w.heap.size w w5) (hrow : StRow w6 g r bad (fun k => w5.heap.size ≤ k)) (hb6 : But [g] w5 w6) (hg : g < w.heap.size) :
    CutPost w g b bad (.returned (.tuple #[.slice A n k, .int .i64 x])) w6 := by
  obtain ⟨h1, h2, _, h3⟩ := ownN_at hown
  have hA : ∀ b o s, A = some ⟨b, o, s⟩ → w.heap.size ≤ b ∧ b < w5.heap.size := by
    intro b o s e
    subst e
    exact hown.lt b rfl
  have hF : FrsOf (fun k => w.heap.size ≤ k ∧ k < w5.heap.size) w5 A n k fs := ⟨hfs, h1, h2, fun b o s e _ => hA b o s e, vs, h3, hfr.move fun b hf hl => ⟨rfl, hf.2, hl⟩⟩
  have hF6 := hF.but hb6 (fun k hk hm => by
    have : k = g := by simpa using hm
    omega)
  rcases hcut with hcut | ⟨hcut, rfl⟩
  · exact ⟨A, n, k, w5.heap.size, r, by rw [hcut, hx], hb5.size, by rw [hcut]; exact hF6, (fun _ => by rw [hcut]), hrow, (But.of_below hb5 (Nat.le_refl _) [g]).trans hb6⟩
  · exact ⟨A, n, k, w5.heap.size, r, by rw [hcut, hx], hb5.size, by rw [hcut]; exact hF6, (fun h => by rw [hcut] at h; cases h), hrow, (But.of_below hb5 (Nat.le_refl _) [g]).trans hb6⟩

set_option maxRecDepth 100000 in
set_option maxHeartbeats 2000000 in
theorem cut5_any {F : Nat → Prop} (g : Nat) (b : List UInt8) (bad : Bool) (hm : b.length ≤ 60000) (w : World) (h : StRow w g b bad F) :
    Calls Try.prog 16 #[.pointer (some ⟨g, 0, none⟩)] w (CutPost w g b bad) := by
  have HS : Hid (∀ w', Below w.heap.size w w' → StRow w' g b bad (fun _ => True)) := Lib.hid fun w' hb => h.move (hb.block g (by obtain ⟨_, _, _, h, _⟩ := h; exact row_lt h)) fun k _ hk => ⟨hb.block k hk, trivial⟩
  obtain ⟨A0, n0, c0, h1, h2, h3, h4, h5, h6⟩ := h
  have hlt := row_lt h1
  have H1 := Lib.hid h1
  have H2 := Lib.hid h2
  have hm' : n0 ≤ 60000 := by omega
  have HM := Lib.hid hm
  unfold maxLen at h4
  clear h1 h2 hm h6
  go_enter Try.func16, Try.ntmps16
  go_wp2
  go_loopw [4, 5] (fun o d wr => CutInv w n0 b o d wr) (fun _ d _ => n0 - (intOf d).toNat)
  case atStart => exact ⟨none, 0, 0, 0, [], [], rfl, rfl, Nat.zero_le _, Nat.le_refl _, rfl, World.ownsRow_nil _ _ _ _, rfl, by simp, Below.refl _ _⟩
  case round =>
    obtain ⟨Ao, no, co, d, vs, fs, rfl, rfl, hd, hno, hfs, hown, hfr, hcut, hbe⟩ := hrel
    obtain ⟨r, hr⟩ : ∃ r, b.drop d = r := ⟨_, rfl⟩
    rw [hr] at hcut
    have HR := Lib.hid hr
    have HRN : Hid (r.length = n0 - d) := Lib.hid (by rw [← hr, List.length_drop, H2.out])
    have hrow := (hbe.block g hlt).trans H1.out
    obtain ⟨hr0, hr1, hz0, hz1⟩ := row_two hrow
    have hltg := row_lt hrow
    have HL := Lib.hid (lies_off (h5.below hbe (Nat.le_refl _)) d)
    rw [hr] at HL
    have i1 : (d : Int) ≤ (n0 : Int) := by omega
    clear hr hrow
    go_wp2_with fail
    · rename_i hcd _
      have h0 : n0 - d = 0 := by omega
      rw [h0] at HRN ⊢
      have HE := Lib.hid (List.eq_nil_of_length_eq_zero HRN.out)
      refine (read4_any A0 0 0 [] rfl (Nat.le_refl _) (by omega) _ (Lies.nil _ _)).mono ?_
      rintro e w5 ⟨A4, n4, c4, rfl, hn4, hnc4, hcm4, hy4, hbe4, hnew4⟩
      have h3' : Mb.codeB [] = 3 := by decide
      rw [h3']
      have hbe5 := (hbe.trans (hbe4.mono hbe.size)).alloc (hbe.trans (hbe4.mono hbe.size)).size (.cells #[u16v (Mb.tid []), u8v (Mb.unit []), .slice A4 n4 c4] 45)
      have hb45 := hbe4.alloc hbe4.size (.cells #[u16v (Mb.tid []), u8v (Mb.unit []), .slice A4 n4 c4] 45)
      have hown5 := own_but hown (But.of_below hb45 (Nat.le_refl _) []) (by simp)
      have hfr5 := hfr.below hb45 (Nat.le_refl _)
      have hs5 := HS.out _ hbe5
      have HC : Hid (Stm.cut b = (fs, b.drop d, false)) := Lib.hid (by rw [hcut, HE.out, HR.out, HE.out, Stm.cut_nil, List.append_nil])
      clear hr0 hr1 hz0 hz1 hltg hown hfr hcut hbe4 hn4 hy4 hnew4 hb45
      go_wp2_with fail
      refine (leave_any g b d bad (by rw [H2.out]; omega) (by have := HM.out; omega) _ hs5).mono ?_
      rintro e w6 ⟨rfl, hrow6, hb6⟩
      go_wp2_with fail
      go_ret2
      exact CutPost.mk (.inl HC.out) rfl hfs hown5 hfr5 hbe5 hrow6 hb6 hlt
    · refine (read4_any _ _ _ r HRN.out (by omega) (by omega) _ HL.out).mono ?_
      rintro e w5 ⟨A4, n4, c4, rfl, hn4, hnc4, hcm4, hy4, hbe4, hnew4⟩
      by_cases hg0 : Mb.codeB r = 0
      · have hsz := Mb.again_size hg0
        rw [HRN.out] at hsz
        have HC := Lib.hid (Stm.cut_frame hg0)
        obtain ⟨z, hz⟩ : ∃ z, Mb.size r = z := ⟨_, rfl⟩
        rw [hz] at hsz
        have HZ := Lib.hid hz
        rw [hg0, hz]
        have HAo : Hid (∀ g o s, Ao = some ⟨g, o, s⟩ → g < wr.heap.size) := Lib.hid (fun g o s e => by subst e; exact (hown.lt g rfl).2)
        have hzr := hbe.size
        have HX : Hid (FrOk (fun k => offRow Ao k ∧ w.heap.size ≤ k) w5 ⟨Mb.tid r, Mb.unit r, Mb.pdu r⟩ (A4, n4, c4)) := Lib.hid ⟨hn4, hnc4, hcm4, hy4, fun b o s e h0 => ⟨fun g' o' s' e' => by have := hnew4 b o s e h0; have := HAo.out g' o' s' e'; omega, by have := hnew4 b o s e h0; omega⟩⟩
        have hb45 := hbe4.alloc hbe4.size (.cells #[u16v (Mb.tid r), u8v (Mb.unit r), .slice A4 n4 c4] 45)
        have hown5 := own_but hown (But.of_below hb45 (Nat.le_refl _) []) (by simp)
        have hfr5 := hfr.below hbe4 (Nat.le_refl _)
        have hbe5 := hbe.trans (hbe4.mono hbe.size)
        have HZ5 := Lib.hid hbe5.size
        have hzz := hbe4.size
        have hno' : no ≤ 60000 := by omega
        have iz : IntKind.i64.wrap ((d : Int) + (z : Int)) = ((d + z : Nat) : Int) := by rw [IntKind.wrap_i64]; omega
        clear hr0 hr1 hz0 hz1 hltg hown hfr hbe4 hn4 hnc4 hcm4 hy4 hnew4 hg0 hz hb45
        go_wp2_with (at_builtin; go_must (refine wpList_append_cells kitL _ rfl (.tmp 27) (.tmp 29) rfl w.heap.size _ no vs rfl (own_but hown5 ((But.refl [] _).alloc (.cells #[u16v (Mb.tid r), u8v (Mb.unit r), .slice A4 n4 c4] 45)) (by simp)) (some ⟨w5.heap.size + 1, 0, none⟩) 1 1 (frCells ⟨Mb.tid r, Mb.unit r, Mb.pdu r⟩ (A4, n4, c4)) rfl rfl (lies_at _ _ _ _ _ (by simp [frCells]) (by simp)) (fr_one _ _) (by omega) (by unfold maxLen; omega) (by simp; omega) ?_; intro A6 c6 w6 hown6 hgr6 hb6 hat6))
        have hw5 : Below w5.heap.size w5 ((w5.alloc (.cells #[u16v (Mb.tid r), u8v (Mb.unit r), .slice A4 n4 c4] 45)).alloc (.cells #[u16v (Mb.tid r), u8v (Mb.unit r), .slice A4 n4 c4] 45)) := ((Below.refl _ _).alloc (Nat.le_refl _) _).alloc (by simp) _
        have hmv : ∀ b, (offRow Ao b ∧ w.heap.size ≤ b) → b < w5.heap.size → w6.heap[b]? = w5.heap[b]? ∧ (offRow A6 b ∧ w.heap.size ≤ b) := by
          intro b hb hlb
          refine ⟨(hgr6.block b (by simp; omega) ?_).trans (hw5.block b hlb), ?_, hb.2⟩
          · intro e
            rcases Ao with _ | ⟨gb, go_, gs⟩
            · cases e
            · have e' : some b = some gb := e
              exact hb.1 _ _ _ rfl (Option.some.inj e')
          · intro g' o' s' e'
            rcases hat6 g' o' s' e' with h | h
            · rcases Ao with _ | ⟨gb, go_, gs⟩
              · cases h
              · have h' : some gb = some g' := h
                rw [← Option.some.inj h']
                exact hb.1 _ _ _ rfl
            · simp at h
              omega
        have hfr6 : FrsIn (fun k => offRow A6 k ∧ w.heap.size ≤ k) w6 (vs ++ frCells ⟨Mb.tid r, Mb.unit r, Mb.pdu r⟩ (A4, n4, c4)) (fs ++ [⟨Mb.tid r, Mb.unit r, Mb.pdu r⟩]) := (hfr5.append (FrsIn.one HX.out)).move hmv
        have hbw6 : Below w.heap.size w w6 := (hbe5.trans (hw5.mono HZ5.out)).trans hb6
        go_roundw
        case rel =>
          refine ⟨A6, no + 1, c6, d + z, _, fs ++ [⟨Mb.tid r, Mb.unit r, Mb.pdu r⟩], rfl, rfl, by omega, by omega, ?_, hown6, hfr6, ?_, hbw6⟩
          · rw [List.length_append, hfs]; rfl
          · rw [hcut, HC.out, HZ.out, List.append_assoc, ← HR.out, List.drop_drop]; rfl
        case measure => simp [intOf]; omega
      · obtain ⟨k, hk⟩ : ∃ k, Mb.codeB r = k := ⟨_, rfl⟩
        have hbe5 := (hbe.trans (hbe4.mono hbe.size)).alloc (hbe.trans (hbe4.mono hbe.size)).size (.cells #[u16v (Mb.tid r), u8v (Mb.unit r), .slice A4 n4 c4] 45)
        have hb45 := hbe4.alloc hbe4.size (.cells #[u16v (Mb.tid r), u8v (Mb.unit r), .slice A4 n4 c4] 45)
        have hown5 := own_but hown (But.of_below hb45 (Nat.le_refl _) []) (by simp)
        have hfr5 := hfr.below hb45 (Nat.le_refl _)
        have hs5 := HS.out _ hbe5
        have hk23 := Mb.codeB_two r
        have HC : Hid (∃ bad2, (Stm.cut b = (fs, b.drop d, bad2) ∨ (Stm.cut b = (fs, [], true) ∧ bad2 = true)) ∧ (k : Int) = if bad2 then 2 else 3) := Lib.hid (by
          by_cases hg2 : Mb.codeB r = 2
          · exact ⟨true, .inr ⟨by rw [hcut, Stm.cut_bad hg2, List.append_nil], rfl⟩, by rw [← hk, hg2]; rfl⟩
          · refine ⟨false, .inl (by rw [hcut, Stm.cut_short hg0 hg2, List.append_nil, HR.out]), ?_⟩
            have : Mb.codeB r = 3 := by omega
            rw [← hk, this]; rfl)
        have hne : ((k : Int) != 0) = true := by rw [bne_iff_ne]; omega
        rw [hk]
        clear hr0 hr1 hz0 hz1 hltg hown hfr hcut hbe4 hn4 hy4 hnew4 hb45 hg0 hk hk23
        go_wp2_with fail
        refine (leave_any g b d bad (by rw [H2.out]; omega) (by have := HM.out; omega) _ hs5).mono ?_
        rintro e w6 ⟨rfl, hrow6, hb6⟩
        go_wp2_with fail
        go_ret2
        obtain ⟨bad2, HC1, HC2⟩ := HC.out
        exact CutPost.mk HC1 HC2 hfs hown5 hfr5 hbe5 hrow6 hb6 hlt
#print axioms cut5_any
end Go.Proofs.Ytophchhienlafaa
