
/-
  The landed ask: Right, Bytes.
-/
import Derived.Test.YtlgmjnjhdamknaaGreatLn
import Derived.Test.YtlgmjnjhdamknaaGreatRe
import Derived.Lib.MinMax
namespace Go.Proofs.YtlgmjnjhdamknaaGreat
open Go.RowKit Go.Shelf

theorem LayPost.at_none {w w' : World} {c : Int} {e : Ending} (h : LayPost w c e w') (hl : layOf c = none) : e = .returned (.tuple #[.agg #[.slice none 0 0, .slice none 0 0, .nilFunc], .bool false]) ∧ Below w.heap.size w w' := by
  obtain ⟨h1, h2⟩ := h
  rw [hl] at h2
  exact ⟨h2, h1⟩
theorem LayPost.at_some {w w' : World} {c : Int} {e : Ending} {L : LK} (h : LayPost w c e w') (hl : layOf c = some L) : Below w.heap.size w w' ∧ ∃ A n k b m g, e = .returned (.tuple #[.agg #[.slice A n k, .slice (some ⟨b, 0, none⟩) m m, .func (.func g) #[] #[]], .bool true]) ∧ LayIn w.heap.size w' L (.agg #[.slice A n k, .slice (some ⟨b, 0, none⟩) m m, .func (.func g) #[] #[]]) ∧ InsideOK g L.inside := by
  obtain ⟨h1, h2⟩ := h
  rw [hl] at h2
  obtain ⟨v, rfl, hL⟩ := h2
  have hL2 := hL
  obtain ⟨A, n, k, b, m, g, pvs, rfl, _, _, _, _, _, _, _, _, hI, _⟩ := hL2
  exact ⟨h1, A, n, k, b, m, g, rfl, hL, hI⟩

set_option maxRecDepth 100000 in
set_option maxHeartbeats 1000000 in
theorem right6_any (a : Ask) (h k : Option Addr × Nat × Nat) (w : World) (ha : AskIn w a h k) :
    Calls Tryz.prog 37 #[askV a h k] w fun e w' => e = .returned (.bool (Ak.right a)) ∧ Below w.heap.size w w' := by
  have hb0 : Below w.heap.size w (w.alloc (.cells #[.int .i64 a.code, .int .i64 a.addr, .int .i64 a.count, .int .i64 a.to, .slice h.1 h.2.1 h.2.2, .slice k.1 k.2.1 k.2.2, u16v a.and_, u16v a.or_] 40)) := (Below.refl _ _).alloc (Nat.le_refl _) _
  have hra := row_at w #[.int .i64 a.code, .int .i64 a.addr, .int .i64 a.count, .int .i64 a.to, .slice h.1 h.2.1 h.2.2, .slice k.1 k.2.1 k.2.2, u16v a.and_, u16v a.or_] 40 w.heap.size rfl
  have ha1 := ha.below hb0
  have HLO := Lib.hid (layoutOf_any a.code)
  cases hl : layOf a.code with
  | none =>
    have HR : Hid (Ak.right a = false) := Lib.hid (right_none hl)
    have HN := Lib.hid hl
    clear hl
    rw [askV_eq]
    go_enter Tryz.func37, Tryz.ntmps37
    go_wp2_with fail
    refine (HLO.out _).mono ?_
    intro e w3 hp
    obtain ⟨rfl, hb3⟩ := hp.at_none HN.out
    go_wp2_with fail
    go_ret
    exact ⟨by rw [HR.out]; rfl, (hb0.trans (hb3.mono hb0.size)).alloc (Nat.le_trans hb0.size hb3.size) _⟩
  | some L =>
    have HN := Lib.hid hl
    have HR : Hid (Ak.right a = (L.fits a && L.inside.ok a)) := Lib.hid (right_some hl)
    have HS : Hid (L.fits a = true → SmallA a) := Lib.hid (fits_small hl)
    have HP : Hid (L.parts.length ≤ 4) := Lib.hid (layOf_parts hl).1
    clear hl
    rw [askV_eq]
    go_enter Tryz.func37, Tryz.ntmps37
    go_wp2_with fail
    refine (HLO.out _).mono ?_
    intro e w3 hp
    obtain ⟨hb3, A, n, c, b, m, g, rfl, hL, hI⟩ := hp.at_some HN.out
    have hlt3 : w.heap.size < w3.heap.size := row_lt (row_later hra hb3)
    obtain ⟨r0, r1, r2, r3, r4, r5, r6, r7⟩ := row_eight (row_later hra hb3)
    have hb4 : Below w3.heap.size w3 (w3.alloc (.cells #[.slice A n c, .slice (some ⟨b, 0, none⟩) m m, .func (.func g) #[] #[]] 98)) := (Below.refl _ _).alloc (Nat.le_refl _) _
    have hr3 := row_at w3 #[.slice A n c, .slice (some ⟨b, 0, none⟩) m m, .func (.func g) #[] #[]] 98 w3.heap.size rfl
    have ha4 := (ha1.below hb3).below hb4
    have hra4 := row_later (row_later hra hb3) hb4
    have hbw4 := hb0.trans ((hb3.trans (hb4.mono hb3.size)).mono hb0.size)
    have HF := Lib.hid (fits6_any _ w3 (w3.alloc (.cells #[.slice A n c, .slice (some ⟨b, 0, none⟩) m m, .func (.func g) #[] #[]] 98)) L HP.out _ hL hb4 a h k ha4)
    rw [askV_eq] at HF
    have eg := hI.en
    unfold Enters at eg
    cases hf : L.fits a with
    | false =>
      rw [hf] at HF HR
      clear hf
      go_wp2_with fail
      refine HF.out.mono ?_
      rintro e w5 ⟨rfl, hb5⟩
      go_wp2_with fail
      go_ret
      exact ⟨by rw [HR.out]; rfl, hbw4.trans (hb5.mono hbw4.size)⟩
    | true =>
      have HSM := Lib.hid (HS.out hf)
      rw [hf] at HF HR
      clear hf HS
      have HIN := Lib.hid (fun W ha => hI.ca W a h k ha HSM.out)
      rw [askV_eq] at HIN
      go_wp2_with fail
      refine HF.out.mono ?_
      rintro e w5 ⟨rfl, hb5⟩
      have ha5 := ha4.below hb5
      obtain ⟨q0, q1, q2, _⟩ := row_tri (row_later hr3 hb5)
      obtain ⟨r0, r1, r2, r3, r4, r5, r6, r7⟩ := row_eight (row_later hra4 hb5)
      have hbw5 := hbw4.trans (hb5.mono hbw4.size)
      generalize hok : L.inside.ok a = ok at *
      go_wp2_with (go_at_fn g; refine (HIN.out _ ha5).mono ?_; rintro e w6 ⟨rfl, hb6⟩)
      go_ret
      exact ⟨by rw [HR.out]; rfl, hbw5.trans (hb6.mono hbw5.size)⟩

set_option maxRecDepth 100000 in
set_option maxHeartbeats 1000000 in
theorem bytes6_any (a : Ask) (h k : Option Addr × Nat × Nat) (w : World) (ha : AskIn w a h k) :
    Calls Tryz.prog 22 #[askV a h k] w (AskBytesPost w a) := by
  have hb0 : Below w.heap.size w (w.alloc (.cells #[.int .i64 a.code, .int .i64 a.addr, .int .i64 a.count, .int .i64 a.to, .slice h.1 h.2.1 h.2.2, .slice k.1 k.2.1 k.2.2, u16v a.and_, u16v a.or_] 40)) := (Below.refl _ _).alloc (Nat.le_refl _) _
  have hra := row_at w #[.int .i64 a.code, .int .i64 a.addr, .int .i64 a.count, .int .i64 a.to, .slice h.1 h.2.1 h.2.2, .slice k.1 k.2.1 k.2.2, u16v a.and_, u16v a.or_] 40 w.heap.size rfl
  have ha1 := ha.below hb0
  have HLO := Lib.hid (layoutOf_any a.code)
  have HRI := Lib.hid (right6_any a h k (w.alloc (.cells #[.int .i64 a.code, .int .i64 a.addr, .int .i64 a.count, .int .i64 a.to, .slice h.1 h.2.1 h.2.2, .slice k.1 k.2.1 k.2.2, u16v a.and_, u16v a.or_] 40)) ha1)
  rw [askV_eq] at HRI
  cases hr : Ak.right a with
  | false =>
    have HP : Hid (Ak.bytes a = [] ∧ Ak.codeA a = 2) := Lib.hid (by unfold Ak.bytes Ak.codeA; rw [hr]; exact ⟨rfl, rfl⟩)
    rw [hr] at HRI
    clear hr
    rw [askV_eq]
    go_enter Tryz.func22, Tryz.ntmps22
    go_wp2_with fail
    refine HRI.out.mono ?_
    rintro e w2 ⟨rfl, hb2⟩
    go_wp2_with fail
    go_ret2
    exact ⟨none, 0, 0, by rw [HP.out.2]; rfl, by rw [HP.out.1]; rfl, by rw [HP.out.1]; exact World.ownsRow_nil _ _ _ _, hb0.trans (hb2.mono hb0.size)⟩
  | true =>
    obtain ⟨L, hl⟩ := right_lay hr
    have HN := Lib.hid hl
    have HX := Lib.hid (right_text hl hr)
    have HP : Hid (Ak.bytes a = Ak.text a ∧ Ak.codeA a = 0) := Lib.hid (by unfold Ak.bytes Ak.codeA; rw [hr]; exact ⟨rfl, rfl⟩)
    have HPS : Hid (L.parts.length ≤ 4) := Lib.hid (layOf_parts hl).1
    rw [hr] at HRI
    clear hl hr
    rw [askV_eq]
    go_enter Tryz.func22, Tryz.ntmps22
    go_wp2_with fail
    refine HRI.out.mono ?_
    rintro e w2 ⟨rfl, hb2⟩
    have hbw2 := hb0.trans (hb2.mono hb0.size)
    have hra2 := row_later hra hb2
    have ha2 := ha1.below hb2
    have hlt2 : w.heap.size < w2.heap.size := row_lt hra2
    obtain ⟨r0, r1, r2, r3, r4, r5, r6, r7⟩ := row_eight hra2
    go_wp2_with fail
    refine (HLO.out _).mono ?_
    intro e w3 hp
    obtain ⟨hb3, A, n, c, b, m, g, rfl, hL, hI⟩ := hp.at_some HN.out
    clear r0 r1 r2 r3 r4 r5 r6 r7
    have hlt3 : w.heap.size < w3.heap.size := row_lt (row_later hra2 hb3)
    obtain ⟨r0, r1, r2, r3, r4, r5, r6, r7⟩ := row_eight (row_later hra2 hb3)
    have hb4 : Below w3.heap.size w3 (w3.alloc (.cells #[.slice A n c, .slice (some ⟨b, 0, none⟩) m m, .func (.func g) #[] #[]] 98)) := (Below.refl _ _).alloc (Nat.le_refl _) _
    have ha4 := (ha2.below hb3).below hb4
    have hbw4 := hbw2.trans ((hb3.trans (hb4.mono hb3.size)).mono hbw2.size)
    have HLA := Lib.hid (lay6_any _ w3 (w3.alloc (.cells #[.slice A n c, .slice (some ⟨b, 0, none⟩) m m, .func (.func g) #[] #[]] 98)) L HPS.out _ hL hb4 a h k ha4 HX.out.1 (by rw [HX.out.2.1]; exact HX.out.2.2))
    rw [askV_eq, HX.out.2.1] at HLA
    go_wp2_with fail
    refine HLA.out.mono ?_
    rintro e w5 ⟨A5, n5, c5, rfl, k1, k2, hb5⟩
    go_wp2_with fail
    go_ret2
    exact ⟨A5, n5, c5, by rw [HP.out.2]; rfl, by rw [HP.out.1]; exact k1, by rw [HP.out.1]; exact own_lower k2 hbw4.size, hbw4.trans (hb5.mono hbw4.size)⟩
end Go.Proofs.YtlgmjnjhdamknaaGreat

/-
  The landed ask: layoutBy.
-/
namespace Go.Proofs.YtlgmjnjhdamknaaGreat
open Go.RowKit Go.Shelf

/-- The layout that bytes begin with. -/
def layBy (b : List UInt8) : Option LK := if b.length = 0 then none else match layOf ((b.getD 0 0).toNat : Nat) with
  | none => none
  | some L => if b.take (min b.length L.begin_.length) == L.begin_.take (min b.length L.begin_.length) then some L else none
/-- What layoutBy leaves. -/
def LayByPost (w : World) (b : List UInt8) (e : Ending) (w' : World) : Prop :=
  Below w.heap.size w w' ∧ (match layBy b with
    | none => ∃ A n c B m m2 f, e = .returned (.tuple #[.agg #[.slice A n c, .slice B m m2, f], .bool false]) ∧ (f = .nilFunc ∨ ∃ g, f = .func (.func g) #[] #[])
    | some L => ∃ A n c b m g, e = .returned (.tuple #[.agg #[.slice A n c, .slice (some ⟨b, 0, none⟩) m m, .func (.func g) #[] #[]], .bool true]) ∧ LayIn w.heap.size w' L (.agg #[.slice A n c, .slice (some ⟨b, 0, none⟩) m m, .func (.func g) #[] #[]]) ∧ InsideOK g L.inside)
theorem LayByPost.none {w w' : World} {b : List UInt8} {A B : Option Addr} {n c m m2 : Nat} {f : Value} (hl : layBy b = Option.none) (hf : f = .nilFunc ∨ ∃ g, f = .func (.func g) #[] #[]) (hb : Below w.heap.size w w') : LayByPost w b (.returned (.tuple #[.agg #[.slice A n c, .slice B m m2, f], .bool false])) w' :=
  ⟨hb, by rw [hl]; exact ⟨A, n, c, B, m, m2, f, rfl, hf⟩⟩

end Go.Proofs.YtlgmjnjhdamknaaGreat
