
/- A part of the proof of the law MasterDoes. -/
import Derived.Test.YtlgmjnjhdamknaaGreatMem
import Derived.Test.YtlgmjnjhdamknaaGreatRt7
import Derived.Test.YtlgmjnjhdamknaaGreatBy7
namespace Go.Proofs.YtlgmjnjhdamknaaGreat
open Go.RowKit

theorem stored_four {w : World} {g : Nat} {c0 c1 c2 c3 : Value} {t : TypeId} (h : w.heap[g]? = some (.cells #[c0, c1, c2, c3] t (0, 0))) (d0 d1 d2 d3 : Value) :
    ((((w.setCell ⟨g, 0, none⟩ d0).setCell ⟨g, 1, none⟩ d1).setCell ⟨g, 2, none⟩ d2).setCell ⟨g, 3, none⟩ d3).heap[g]? = some (.cells #[d0, d1, d2, d3] t (0, 0)) := by
  simp [World.setCell, Array.getElem?_modify, h]
theorem but_four {S : List Nat} {a w : World} {g : Nat} (h : But S a w) (hg : g ∈ S ∨ a.heap.size ≤ g) (d0 d1 d2 d3 : Value) : But S a ((((w.setCell ⟨g, 0, none⟩ d0).setCell ⟨g, 1, none⟩ d1).setCell ⟨g, 2, none⟩ d2).setCell ⟨g, 3, none⟩ d3) :=
  (((h.setCell (p := ⟨g, 0, none⟩) hg _).setCell (p := ⟨g, 1, none⟩) hg _).setCell (p := ⟨g, 2, none⟩) hg _).setCell (p := ⟨g, 3, none⟩) hg _
theorem AnsIn.but {S : List Nat} {w w' : World} {x : Ans} {h k t : Hd} (i : AnsIn w x h k t) (hb : But S w w') (f1 : ∀ b o s, h.1 = some ⟨b, o, s⟩ → 0 < x.bits.length → b ∉ S) (f2 : ∀ b o s, k.1 = some ⟨b, o, s⟩ → 0 < x.words.length → b ∉ S) (f3 : ∀ b o s, t.1 = some ⟨b, o, s⟩ → 0 < x.texts.length → b ∉ S) : AnsIn w' x h k t :=
  ⟨i.hn, i.hc, i.hm, i.hl.but hb f1, i.kn, i.kc, i.km, i.kl.but hb f2, i.tn, i.tc, i.tm, i.tl.but hb f3, i.ts⟩
theorem cells_quad {n : Int} {A B C : Option Addr} {n1 c1 n2 c2 n3 c3 i : Nat} {v : Value} (h : (#[.int .i64 n, .slice A n1 c1, .slice B n2 c2, .slice C n3 c3] : Array Value)[i]? = some v) : v = .int .i64 n ∨ ∃ A n c, v = .slice A n c := by
  rcases i with _ | _ | _ | _ | i
  · exact .inl (by simpa using h.symm)
  · exact .inr ⟨A, n1, c1, by simpa using h.symm⟩
  · exact .inr ⟨B, n2, c2, by simpa using h.symm⟩
  · exact .inr ⟨C, n3, c3, by simpa using h.symm⟩
  · simp at h
theorem AnsIn.four {w : World} {x : Ans} {h k t : Hd} {g : Nat} {n : Int} {A B C : Option Addr} {n1 c1 n2 c2 n3 c3 : Nat} {T : TypeId} (i : AnsIn w x h k t) (hg : w.heap[g]? = some (.cells #[.int .i64 n, .slice A n1 c1, .slice B n2 c2, .slice C n3 c3] T (0, 0))) (d0 d1 d2 d3 : Value) :
    AnsIn ((((w.setCell ⟨g, 0, none⟩ d0).setCell ⟨g, 1, none⟩ d1).setCell ⟨g, 2, none⟩ d2).setCell ⟨g, 3, none⟩ d3) x h k t := by
  refine i.but (but_four (But.refl [g] w) (.inl (by simp)) d0 d1 d2 d3) ?_ ?_ ?_
  · exact far_row hg i.hl fun y j v hv => by rcases cells_quad hv with rfl | ⟨_, _, _, rfl⟩ <;> simp
  · exact far_row hg i.kl fun y j v hv => by rcases cells_quad hv with rfl | ⟨_, _, _, rfl⟩ <;> simp
  · exact far_row hg i.tl fun y j v hv => by rcases cells_quad hv with rfl | ⟨_, _, _, rfl⟩ <;> simp
theorem RdAt.four {w : World} {q g : Nat} {b : List UInt8} {n : Int} {A B C : Option Addr} {n1 c1 n2 c2 n3 c3 : Nat} {T : TypeId} (i : RdAt w q b) (hne : q ≠ g) (hg : w.heap[g]? = some (.cells #[.int .i64 n, .slice A n1 c1, .slice B n2 c2, .slice C n3 c3] T (0, 0))) (d0 d1 d2 d3 : Value) :
    RdAt ((((w.setCell ⟨g, 0, none⟩ d0).setCell ⟨g, 1, none⟩ d1).setCell ⟨g, 2, none⟩ d2).setCell ⟨g, 3, none⟩ d3) q b :=
  i.but (but_four (But.refl [g] w) (.inl (by simp)) d0 d1 d2 d3) (by simpa using hne) fun _ hA => far_row hg hA fun y j v hv => by rcases cells_quad hv with rfl | ⟨_, _, _, rfl⟩ <;> simp
theorem An.textsR_small : ∀ (k i : Nat) (b r : List UInt8) (l : List ByteArray), An.textsR i k b = some (l, r) → ∀ s ∈ l, s.size ≤ 255 := by
  intro k
  induction k with
  | zero =>
    intro i b r l h
    simp only [An.textsR, Option.some.injEq, Prod.mk.injEq] at h
    obtain ⟨rfl, rfl⟩ := h
    intro s hs
    cases hs
  | succ k ih =>
    intro i b r l h
    unfold An.textsR at h
    split at h
    · cases h
    · next s t hs =>
      obtain ⟨⟨l2, r2⟩, hx, he⟩ := Option.map_eq_some_iff.1 h
      simp only [Prod.mk.injEq] at he
      obtain ⟨rfl, rfl⟩ := he
      intro y hy
      rcases List.mem_cons.1 hy with rfl | hy
      · exact (An.textAt_some hs).2.1
      · exact ih _ _ _ _ hx y hy
def RBPost (w : World) (q : Nat) (o : Option (Ans × List UInt8)) (e : Ending) (w' : World) : Prop :=
  match o with
  | none => GavePost w q e w'
  | some (x, r) => ∃ h k t, e = .returned (ansV x h k t) ∧ AnsIn w' x h k t ∧ RdAt w' q r ∧ But [q] w w'
theorem RBPost.none {w : World} {q : Nat} {o : Option (Ans × List UInt8)} {w' : World} (ho : o = Option.none) (h : But [q] w w') : RBPost w q o (.panicked [{ v := .iface 28 (.int .i64 2), recovered := false }]) w' := by
  subst ho; exact ⟨rfl, h⟩
theorem RBPost.some {w : World} {q : Nat} {o : Option (Ans × List UInt8)} {x : Ans} {r : List UInt8} {w' : World} {h k t : Hd} (ho : o = Option.some (x, r)) (h4 : AnsIn w' x h k t) (h5 : RdAt w' q r) (h6 : But [q] w w') : RBPost w q o (.returned (ansV x h k t)) w' := by
  subst ho; exact ⟨h, k, t, rfl, h4, h5, h6⟩

set_option maxRecDepth 100000 in
set_option maxHeartbeats 1000000 in
theorem rbody7_3 (code : Int) (hcode : code = 3 ∨ code = 4 ∨ code = 23) (addr count to : Int) (words : List UInt16) (bits : List Bool) (and_ or_ : UInt16) (h k : Hd) (q : Nat) (b : List UInt8) (w : World) (ha : AskIn w ⟨code, addr, count, to, words, bits, and_, or_⟩ h k) (hr : RdAt w q b) :
    Calls Tryz.prog 184 #[.pointer (some ⟨q, 0, none⟩), askV ⟨code, addr, count, to, words, bits, and_, or_⟩ h k] w (RBPost w q (An.bodyR ⟨code, addr, count, to, words, bits, and_, or_⟩ b)) := by
  obtain ⟨hra, hrx, hb0, hlt1, hlt0⟩ := two_new7 w #[.int .i64 code, .int .i64 addr, .int .i64 count, .int .i64 to, .slice h.1 h.2.1 h.2.2, .slice k.1 k.2.1 k.2.2, u16v and_, u16v or_] #[.int .i64 0, .slice none 0 0, .slice none 0 0, .slice none 0 0] 40 46
  have hqw := hr.lt
  have hr0 := hr.below hb0
  have ha0 := ha.below hb0
  have hbu0 : But [q] w ((w.alloc (.cells #[.int .i64 code, .int .i64 addr, .int .i64 count, .int .i64 to, .slice h.1 h.2.1 h.2.2, .slice k.1 k.2.1 k.2.2, u16v and_, u16v or_] 40)).alloc (.cells #[.int .i64 0, .slice none 0 0, .slice none 0 0, .slice none 0 0] 46)) := But.of_below hb0 (zq _) [q]
  obtain ⟨O, hO⟩ : ∃ O, An.bodyR ⟨code, addr, count, to, words, bits, and_, or_⟩ b = O := ⟨_, rfl⟩
  have HO0 : Hid (O = match An.countedR b with | none => none | some (p, r) => if Word.isWords p then some (⟨0, [], Word.ansWords p, []⟩, r) else none) := qh (by rcases hcode with rfl | rfl | rfl <;> (rw [← hO]; rfl))
  rw [hO]
  clear hO
  have HROW : Hid (∀ V, But [q] ((w.alloc (.cells #[.int .i64 code, .int .i64 addr, .int .i64 count, .int .i64 to, .slice h.1 h.2.1 h.2.2, .slice k.1 k.2.1 k.2.2, u16v and_, u16v or_] 40)).alloc (.cells #[.int .i64 0, .slice none 0 0, .slice none 0 0, .slice none 0 0] 46)) V → V.heap[w.heap.size]? = some (.cells #[.int .i64 code, .int .i64 addr, .int .i64 count, .int .i64 to, .slice h.1 h.2.1 h.2.2, .slice k.1 k.2.1 k.2.2, u16v and_, u16v or_] 40 (0, 0)) ∧ V.heap[w.heap.size + 1]? = some (.cells #[.int .i64 0, .slice none 0 0, .slice none 0 0, .slice none 0 0] 46 (0, 0)) ∧ But [q] w V) := qh (fun V hV => ⟨row_but hra hV (by simp; omega), row_but hrx hV (by simp; omega), hbu0.trans hV⟩)
  rw [askV_eq]
  rcases hcode with rfl | rfl | rfl
  all_goals
    go_enter Tryz.func184, Tryz.ntmps184
    obtain ⟨r0, r1, r2, r3, r4, r5, r6, r7⟩ := row_eight hra
    cases hct : An.countedR b with
    | none =>
      have HO : Hid (O = none) := qh (by rw [HO0.out, hct])
      have HC := qh (counted_no q b _ hr0 hct)
      clear hr hr0 ha ha0 hct HO0
      go_wp2_with fail
      refine HC.out.mono ?_
      rintro e w7 ⟨he, hb7⟩
      obtain rfl := he
      have HE := qh (RBPost.none (q := q) HO.out (HROW.out _ hb7).2.2)
      go_wp2_with fail
      exact ⟨rfl, HE.out⟩
    | some pr =>
      obtain ⟨p, r⟩ := pr
      have hp255 := (An.countedR_some hct).1
      have HC := qh (counted_yes q b p r _ hr0 hct)
      rw [hct] at HO0
      clear hr hr0 ha ha0 hct
      go_wp2_with fail
      refine HC.out.mono ?_
      rintro e w7 ⟨A7, c7, rfl, f1, f2, f3, f4, f5⟩
      have HW := qh (words_any A7 p.length c7 p rfl f1 (by omega) w7 f3)
      obtain ⟨m7, hm7⟩ : ∃ m7, p.length = m7 := ⟨_, rfl⟩
      rw [hm7] at HW ⊢
      clear f1 f2 f3 hm7 hp255
      cases hw : Word.isWords p with
      | false =>
        have HO : Hid (O = none) := qh (by rw [HO0.out]; simp [hw])
        clear HO0
        go_wp2_with fail
        refine HW.out.mono ?_
        rintro e w8 ⟨A8, n8, c8, rfl, g1, g2, g3, g4, hb8, -⟩
        rw [hw]
        have hbu := f5.then_below hb8
        have HE := qh (RBPost.none (q := q) HO.out (HROW.out _ hbu).2.2)
        clear g1 g2 g3 g4 f4 hw
        go_wp2_with fail
        refine (need_no _).mono ?_
        rintro e w9 ⟨he, rfl⟩
        obtain rfl := he
        go_wp2_with fail
        exact ⟨rfl, HE.out⟩
      | true =>
        have HO : Hid (O = some (⟨0, [], Word.ansWords p, []⟩, r)) := qh (by rw [HO0.out]; simp [hw])
        clear HO0
        go_wp2_with fail
        refine HW.out.mono ?_
        rintro e w8 ⟨A8, n8, c8, rfl, g1, g2, g3, g4, hb8, -⟩
        rw [hw]
        have hbu := f5.then_below hb8
        have hr8 := qh (f4.below hb8)
        have hx8 : Hid (AnsIn w8 ⟨0, [], Word.ansWords p, []⟩ (none, 0, 0) (A8, n8, c8) (none, 0, 0)) := qh ⟨rfl, zq _, Nat.zero_le _, Lies.nil _ _, g1, g2, g3, g4, rfl, zq _, Nat.zero_le _, Lies.nil _ _, by intro s hs; cases hs⟩
        clear g1 g2 g3 g4 f4 hw hb8 f5
        go_wp2_with fail
        refine (need_yes _).mono ?_
        rintro e w9 ⟨rfl, rfl⟩
        have hRW := HROW.out _ hbu
        obtain ⟨z0, z1, z2, z3⟩ := row_quad hRW.2.1
        obtain ⟨y0, y1, y2, y3⟩ := row_quad_free hRW.2.1
        have HS4 := qh (stored_four hRW.2.1 (.int .i64 0) (.slice none 0 0) (.slice A8 n8 c8) (.slice none 0 0))
        have HE : Hid (RBPost w q O (.returned (ansV ⟨0, [], Word.ansWords p, []⟩ (none, 0, 0) (A8, n8, c8) (none, 0, 0))) _) := qh (RBPost.some HO.out ((hx8.out).four hRW.2.1 (.int .i64 0) (.slice none 0 0) (.slice A8 n8 c8) (.slice none 0 0)) ((hr8.out).four (by omega) hRW.2.1 (.int .i64 0) (.slice none 0 0) (.slice A8 n8 c8) (.slice none 0 0)) (but_four hRW.2.2 (.inr (by omega)) (.int .i64 0) (.slice none 0 0) (.slice A8 n8 c8) (.slice none 0 0)))
        have hltz : w.heap.size + 1 < w9.heap.size := row_lt hRW.2.1
        have hltz0 : w.heap.size < w9.heap.size := by omega
        clear hRW hbu
        go_wp2_with fail
        obtain ⟨s0, s1, s2, s3⟩ := row_quad HS4.out
        refine bodyPost_ret_by (v := ansV ⟨0, [], Word.ansWords p, []⟩ (none, 0, 0) (A8, n8, c8) (none, 0, 0)) (by simp [ansV, results, Tryz.f184, go_sem, s0, s1, s2, s3]) rfl ?_
        exact HE.out

set_option maxRecDepth 100000 in
set_option maxHeartbeats 1000000 in
theorem rbody7_1 (addr count to : Int) (words : List UInt16) (bits : List Bool) (and_ or_ : UInt16) (h k : Hd) (q : Nat) (b : List UInt8) (w : World) (ha : AskIn w ⟨1, addr, count, to, words, bits, and_, or_⟩ h k) (hk : Ak.right ⟨1, addr, count, to, words, bits, and_, or_⟩ = true) (hr : RdAt w q b) :
    Calls Tryz.prog 184 #[.pointer (some ⟨q, 0, none⟩), askV ⟨1, addr, count, to, words, bits, and_, or_⟩ h k] w (RBPost w q (An.bodyR ⟨1, addr, count, to, words, bits, and_, or_⟩ b)) := by
  obtain ⟨hra, hrx, hb0, hlt1, hlt0⟩ := two_new7 w #[.int .i64 1, .int .i64 addr, .int .i64 count, .int .i64 to, .slice h.1 h.2.1 h.2.2, .slice k.1 k.2.1 k.2.2, u16v and_, u16v or_] #[.int .i64 0, .slice none 0 0, .slice none 0 0, .slice none 0 0] 40 46
  have hqw := hr.lt
  have hr0 := hr.below hb0
  have ha0 := ha.below hb0
  have hbu0 : But [q] w ((w.alloc (.cells #[.int .i64 1, .int .i64 addr, .int .i64 count, .int .i64 to, .slice h.1 h.2.1 h.2.2, .slice k.1 k.2.1 k.2.2, u16v and_, u16v or_] 40)).alloc (.cells #[.int .i64 0, .slice none 0 0, .slice none 0 0, .slice none 0 0] 46)) := But.of_below hb0 (zq _) [q]
  obtain ⟨O, hO⟩ : ∃ O, An.bodyR ⟨1, addr, count, to, words, bits, and_, or_⟩ b = O := ⟨_, rfl⟩
  have HO0 : Hid (O = match An.countedR b with | none => none | some (p, r) => if Word.isBitsI p count then some (⟨0, Word.ansBitsI p count, [], []⟩, r) else none) := qh (by rw [← hO]; rfl)
  rw [hO]
  clear hO
  have hcm : count ≤ 2000 := by
    have hf := (Ak.formed_parts (An.ak_right hk).1).2.1
    exact (Ak.fits_most (m := 2000) hf (by decide)).2
  have HROW : Hid (∀ V, But [q] ((w.alloc (.cells #[.int .i64 1, .int .i64 addr, .int .i64 count, .int .i64 to, .slice h.1 h.2.1 h.2.2, .slice k.1 k.2.1 k.2.2, u16v and_, u16v or_] 40)).alloc (.cells #[.int .i64 0, .slice none 0 0, .slice none 0 0, .slice none 0 0] 46)) V → V.heap[w.heap.size]? = some (.cells #[.int .i64 1, .int .i64 addr, .int .i64 count, .int .i64 to, .slice h.1 h.2.1 h.2.2, .slice k.1 k.2.1 k.2.2, u16v and_, u16v or_] 40 (0, 0)) ∧ V.heap[w.heap.size + 1]? = some (.cells #[.int .i64 0, .slice none 0 0, .slice none 0 0, .slice none 0 0] 46 (0, 0)) ∧ But [q] w V) := qh (fun V hV => ⟨row_but hra hV (by simp; omega), row_but hrx hV (by simp; omega), hbu0.trans hV⟩)
  rw [askV_eq]
  go_enter Tryz.func184, Tryz.ntmps184
  obtain ⟨r0, r1, r2, r3, r4, r5, r6, r7⟩ := row_eight hra
  have hrD : Hid (RdAt ((w.alloc (.cells #[.int .i64 1, .int .i64 addr, .int .i64 count, .int .i64 to, .slice h.1 h.2.1 h.2.2, .slice k.1 k.2.1 k.2.2, u16v and_, u16v or_] 40)).alloc (.cells #[.int .i64 0, .slice none 0 0, .slice none 0 0, .slice none 0 0] 46)).drew q b) := qh hr0
  have HD1 : Hid (But [q] ((w.alloc (.cells #[.int .i64 1, .int .i64 addr, .int .i64 count, .int .i64 to, .slice h.1 h.2.1 h.2.2, .slice k.1 k.2.1 k.2.2, u16v and_, u16v or_] 40)).alloc (.cells #[.int .i64 0, .slice none 0 0, .slice none 0 0, .slice none 0 0] 46)) ((w.alloc (.cells #[.int .i64 1, .int .i64 addr, .int .i64 count, .int .i64 to, .slice h.1 h.2.1 h.2.2, .slice k.1 k.2.1 k.2.2, u16v and_, u16v or_] 40)).alloc (.cells #[.int .i64 0, .slice none 0 0, .slice none 0 0, .slice none 0 0] 46)).drew) := qh ((But.refl [q] _).drewN 1)
  have HCN : Hid (∀ V, But [q] ((w.alloc (.cells #[.int .i64 1, .int .i64 addr, .int .i64 count, .int .i64 to, .slice h.1 h.2.1 h.2.2, .slice k.1 k.2.1 k.2.2, u16v and_, u16v or_] 40)).alloc (.cells #[.int .i64 0, .slice none 0 0, .slice none 0 0, .slice none 0 0] 46)) V → V.cell? ⟨w.heap.size, 2, none⟩ = some (.int .i64 count)) := qh (fun V hV => (row_eight (HROW.out _ hV).1).2.2.1)
  have rD := HCN.out _ HD1.out
  cases hct : An.countedR b with
  | none =>
    have HO : Hid (O = none) := qh (by rw [HO0.out, hct])
    have HC := qh (counted_no q b _ hrD.out hct)
    have HE := qh (fun V hV => RBPost.none (w' := V) (q := q) HO.out (HROW.out V hV).2.2)
    clear hr hr0 ha ha0 hk hct HO0
    go_wp2_with fail
    generalize ((w.alloc (.cells #[.int .i64 1, .int .i64 addr, .int .i64 count, .int .i64 to, .slice h.1 h.2.1 h.2.2, .slice k.1 k.2.1 k.2.2, u16v and_, u16v or_] 40)).alloc (.cells #[.int .i64 0, .slice none 0 0, .slice none 0 0, .slice none 0 0] 46)) = W at *
    go_region_with (first | (go_at_call 186; (with_reducible refine HC.out.mono ?_); rintro e w7 ⟨he, hb7⟩; obtain rfl := he; refine (fun (_ : wpAny Tryz.prog .any #[] (fun _ _ _ => True) 0 #[] { tmps := #[], defers := [] } w7) => And.intro rfl (HE.out _ (HD1.out.trans hb7))) ?_) | fail)
    all_goals exact trivial
  | some pr =>
    obtain ⟨p, r⟩ := pr
    have hp255 := (An.countedR_some hct).1
    have HC := qh (counted_yes q b p r _ hrD.out hct)
    rw [hct] at HO0
    clear hr hr0 ha ha0 hk hct
    obtain ⟨m7, hm7⟩ : ∃ m7, p.length = m7 := ⟨_, rfl⟩
    have HM7 := qh hm7
    rw [hm7] at hp255
    clear hm7
    cases hw : Word.isBitsI p count with
    | false =>
      have HO : Hid (O = none) := qh (by rw [HO0.out]; simp [hw])
      have HW := qh hw
      clear HO0 hw
      go_wp2_with fail
      generalize ((w.alloc (.cells #[.int .i64 1, .int .i64 addr, .int .i64 count, .int .i64 to, .slice h.1 h.2.1 h.2.2, .slice k.1 k.2.1 k.2.2, u16v and_, u16v or_] 40)).alloc (.cells #[.int .i64 0, .slice none 0 0, .slice none 0 0, .slice none 0 0] 46)) = W at *
      go_region_with (first | (go_at_call 186; (with_reducible refine HC.out.mono ?_); rintro e w7 ⟨A7, c7, rfl, f1, f2, f3, f4, f5⟩; rw [HM7.out]; have rE := HCN.out _ (HD1.out.trans f5)) | (go_at_call 81; (with_reducible refine (bits_any A7 m7 c7 p count (by omega) HM7.out (by omega) _ f3).mono ?_); rintro e w8 ⟨A8, n8, c8, rfl, g1, g2, g3, g4, hb8, -⟩; rw [HW.out]) | fail)
      all_goals (
        have hbu := HD1.out.trans (f5.then_below hb8)
        have HE := qh (RBPost.none (q := q) HO.out (HROW.out _ hbu).2.2)
        clear g1 g2 g3 g4 f1 f2 f3 f4
        go_wp2_with fail
        refine (need_no _).mono ?_
        rintro e w9 ⟨he, rfl⟩
        obtain rfl := he
        go_wp2_with fail
        exact ⟨rfl, HE.out⟩)
    | true =>
      have HO : Hid (O = some (⟨0, Word.ansBitsI p count, [], []⟩, r)) := qh (by rw [HO0.out]; simp [hw])
      have HW := qh hw
      clear HO0 hw
      go_wp2_with fail
      generalize ((w.alloc (.cells #[.int .i64 1, .int .i64 addr, .int .i64 count, .int .i64 to, .slice h.1 h.2.1 h.2.2, .slice k.1 k.2.1 k.2.2, u16v and_, u16v or_] 40)).alloc (.cells #[.int .i64 0, .slice none 0 0, .slice none 0 0, .slice none 0 0] 46)) = W at *
      go_region_with (first | (go_at_call 186; (with_reducible refine HC.out.mono ?_); rintro e w7 ⟨A7, c7, rfl, f1, f2, f3, f4, f5⟩; rw [HM7.out]; have rE := HCN.out _ (HD1.out.trans f5)) | (go_at_call 81; (with_reducible refine (bits_any A7 m7 c7 p count (by omega) HM7.out (by omega) _ f3).mono ?_); rintro e w8 ⟨A8, n8, c8, rfl, g1, g2, g3, g4, hb8, -⟩; rw [HW.out]) | fail)
      all_goals (
        have hbu := HD1.out.trans (f5.then_below hb8)
        have hr8 := qh (f4.below hb8)
        have hx8 : Hid (AnsIn w8 ⟨0, Word.ansBitsI p count, [], []⟩ (A8, n8, c8) (none, 0, 0) (none, 0, 0)) := qh ⟨g1, g2, g3, g4, rfl, zq _, Nat.zero_le _, Lies.nil _ _, rfl, zq _, Nat.zero_le _, Lies.nil _ _, by intro s hs; cases hs⟩
        clear g1 g2 g3 g4 f1 f2 f3 f4 f5 hb8
        go_wp2_with fail
        refine (need_yes _).mono ?_
        rintro e w9 ⟨rfl, rfl⟩
        have hRW := HROW.out _ hbu
        obtain ⟨z0, z1, z2, z3⟩ := row_quad hRW.2.1
        obtain ⟨y0, y1, y2, y3⟩ := row_quad_free hRW.2.1
        have HS4 := qh (stored_four hRW.2.1 (.int .i64 0) (.slice A8 n8 c8) (.slice none 0 0) (.slice none 0 0))
        have HE : Hid (RBPost w q O (.returned (ansV ⟨0, Word.ansBitsI p count, [], []⟩ (A8, n8, c8) (none, 0, 0) (none, 0, 0))) _) := qh (RBPost.some HO.out ((hx8.out).four hRW.2.1 (.int .i64 0) (.slice A8 n8 c8) (.slice none 0 0) (.slice none 0 0)) ((hr8.out).four (by omega) hRW.2.1 (.int .i64 0) (.slice A8 n8 c8) (.slice none 0 0) (.slice none 0 0)) (but_four hRW.2.2 (.inr (by omega)) (.int .i64 0) (.slice A8 n8 c8) (.slice none 0 0) (.slice none 0 0)))
        have hltz : w.heap.size + 1 < w9.heap.size := row_lt hRW.2.1
        have hltz0 : w.heap.size < w9.heap.size := by omega
        clear hRW hbu
        go_wp2_with fail
        obtain ⟨s0, s1, s2, s3⟩ := row_quad HS4.out
        refine bodyPost_ret_by (v := ansV ⟨0, Word.ansBitsI p count, [], []⟩ (A8, n8, c8) (none, 0, 0) (none, 0, 0)) (by simp [ansV, results, Tryz.f184, go_sem, s0, s1, s2, s3]) rfl ?_
        exact HE.out)
set_option maxRecDepth 100000 in
set_option maxHeartbeats 1000000 in
theorem rbody7_2 (addr count to : Int) (words : List UInt16) (bits : List Bool) (and_ or_ : UInt16) (h k : Hd) (q : Nat) (b : List UInt8) (w : World) (ha : AskIn w ⟨2, addr, count, to, words, bits, and_, or_⟩ h k) (hk : Ak.right ⟨2, addr, count, to, words, bits, and_, or_⟩ = true) (hr : RdAt w q b) :
    Calls Tryz.prog 184 #[.pointer (some ⟨q, 0, none⟩), askV ⟨2, addr, count, to, words, bits, and_, or_⟩ h k] w (RBPost w q (An.bodyR ⟨2, addr, count, to, words, bits, and_, or_⟩ b)) := by
  obtain ⟨hra, hrx, hb0, hlt1, hlt0⟩ := two_new7 w #[.int .i64 2, .int .i64 addr, .int .i64 count, .int .i64 to, .slice h.1 h.2.1 h.2.2, .slice k.1 k.2.1 k.2.2, u16v and_, u16v or_] #[.int .i64 0, .slice none 0 0, .slice none 0 0, .slice none 0 0] 40 46
  have hqw := hr.lt
  have hr0 := hr.below hb0
  have ha0 := ha.below hb0
  have hbu0 : But [q] w ((w.alloc (.cells #[.int .i64 2, .int .i64 addr, .int .i64 count, .int .i64 to, .slice h.1 h.2.1 h.2.2, .slice k.1 k.2.1 k.2.2, u16v and_, u16v or_] 40)).alloc (.cells #[.int .i64 0, .slice none 0 0, .slice none 0 0, .slice none 0 0] 46)) := But.of_below hb0 (zq _) [q]
  obtain ⟨O, hO⟩ : ∃ O, An.bodyR ⟨2, addr, count, to, words, bits, and_, or_⟩ b = O := ⟨_, rfl⟩
  have HO0 : Hid (O = match An.countedR b with | none => none | some (p, r) => if Word.isBitsI p count then some (⟨0, Word.ansBitsI p count, [], []⟩, r) else none) := qh (by rw [← hO]; rfl)
  rw [hO]
  clear hO
  have hcm : count ≤ 2000 := by
    have hf := (Ak.formed_parts (An.ak_right hk).1).2.1
    exact (Ak.fits_most (m := 2000) hf (by decide)).2
  have HROW : Hid (∀ V, But [q] ((w.alloc (.cells #[.int .i64 2, .int .i64 addr, .int .i64 count, .int .i64 to, .slice h.1 h.2.1 h.2.2, .slice k.1 k.2.1 k.2.2, u16v and_, u16v or_] 40)).alloc (.cells #[.int .i64 0, .slice none 0 0, .slice none 0 0, .slice none 0 0] 46)) V → V.heap[w.heap.size]? = some (.cells #[.int .i64 2, .int .i64 addr, .int .i64 count, .int .i64 to, .slice h.1 h.2.1 h.2.2, .slice k.1 k.2.1 k.2.2, u16v and_, u16v or_] 40 (0, 0)) ∧ V.heap[w.heap.size + 1]? = some (.cells #[.int .i64 0, .slice none 0 0, .slice none 0 0, .slice none 0 0] 46 (0, 0)) ∧ But [q] w V) := qh (fun V hV => ⟨row_but hra hV (by simp; omega), row_but hrx hV (by simp; omega), hbu0.trans hV⟩)
  rw [askV_eq]
  go_enter Tryz.func184, Tryz.ntmps184
  obtain ⟨r0, r1, r2, r3, r4, r5, r6, r7⟩ := row_eight hra
  have hrD : Hid (RdAt ((w.alloc (.cells #[.int .i64 2, .int .i64 addr, .int .i64 count, .int .i64 to, .slice h.1 h.2.1 h.2.2, .slice k.1 k.2.1 k.2.2, u16v and_, u16v or_] 40)).alloc (.cells #[.int .i64 0, .slice none 0 0, .slice none 0 0, .slice none 0 0] 46)).drew q b) := qh hr0
  have HD1 : Hid (But [q] ((w.alloc (.cells #[.int .i64 2, .int .i64 addr, .int .i64 count, .int .i64 to, .slice h.1 h.2.1 h.2.2, .slice k.1 k.2.1 k.2.2, u16v and_, u16v or_] 40)).alloc (.cells #[.int .i64 0, .slice none 0 0, .slice none 0 0, .slice none 0 0] 46)) ((w.alloc (.cells #[.int .i64 2, .int .i64 addr, .int .i64 count, .int .i64 to, .slice h.1 h.2.1 h.2.2, .slice k.1 k.2.1 k.2.2, u16v and_, u16v or_] 40)).alloc (.cells #[.int .i64 0, .slice none 0 0, .slice none 0 0, .slice none 0 0] 46)).drew) := qh ((But.refl [q] _).drewN 1)
  have HCN : Hid (∀ V, But [q] ((w.alloc (.cells #[.int .i64 2, .int .i64 addr, .int .i64 count, .int .i64 to, .slice h.1 h.2.1 h.2.2, .slice k.1 k.2.1 k.2.2, u16v and_, u16v or_] 40)).alloc (.cells #[.int .i64 0, .slice none 0 0, .slice none 0 0, .slice none 0 0] 46)) V → V.cell? ⟨w.heap.size, 2, none⟩ = some (.int .i64 count)) := qh (fun V hV => (row_eight (HROW.out _ hV).1).2.2.1)
  have rD := HCN.out _ HD1.out
  cases hct : An.countedR b with
  | none =>
    have HO : Hid (O = none) := qh (by rw [HO0.out, hct])
    have HC := qh (counted_no q b _ hrD.out hct)
    have HE := qh (fun V hV => RBPost.none (w' := V) (q := q) HO.out (HROW.out V hV).2.2)
    clear hr hr0 ha ha0 hk hct HO0
    go_wp2_with fail
    generalize ((w.alloc (.cells #[.int .i64 2, .int .i64 addr, .int .i64 count, .int .i64 to, .slice h.1 h.2.1 h.2.2, .slice k.1 k.2.1 k.2.2, u16v and_, u16v or_] 40)).alloc (.cells #[.int .i64 0, .slice none 0 0, .slice none 0 0, .slice none 0 0] 46)) = W at *
    go_region_with (first | (go_at_call 186; (with_reducible refine HC.out.mono ?_); rintro e w7 ⟨he, hb7⟩; obtain rfl := he; refine (fun (_ : wpAny Tryz.prog .any #[] (fun _ _ _ => True) 0 #[] { tmps := #[], defers := [] } w7) => And.intro rfl (HE.out _ (HD1.out.trans hb7))) ?_) | fail)
    all_goals exact trivial
  | some pr =>
    obtain ⟨p, r⟩ := pr
    have hp255 := (An.countedR_some hct).1
    have HC := qh (counted_yes q b p r _ hrD.out hct)
    rw [hct] at HO0
    clear hr hr0 ha ha0 hk hct
    obtain ⟨m7, hm7⟩ : ∃ m7, p.length = m7 := ⟨_, rfl⟩
    have HM7 := qh hm7
    rw [hm7] at hp255
    clear hm7
    cases hw : Word.isBitsI p count with
    | false =>
      have HO : Hid (O = none) := qh (by rw [HO0.out]; simp [hw])
      have HW := qh hw
      clear HO0 hw
      go_wp2_with fail
      generalize ((w.alloc (.cells #[.int .i64 2, .int .i64 addr, .int .i64 count, .int .i64 to, .slice h.1 h.2.1 h.2.2, .slice k.1 k.2.1 k.2.2, u16v and_, u16v or_] 40)).alloc (.cells #[.int .i64 0, .slice none 0 0, .slice none 0 0, .slice none 0 0] 46)) = W at *
      go_region_with (first | (go_at_call 186; (with_reducible refine HC.out.mono ?_); rintro e w7 ⟨A7, c7, rfl, f1, f2, f3, f4, f5⟩; rw [HM7.out]; have rE := HCN.out _ (HD1.out.trans f5)) | (go_at_call 81; (with_reducible refine (bits_any A7 m7 c7 p count (by omega) HM7.out (by omega) _ f3).mono ?_); rintro e w8 ⟨A8, n8, c8, rfl, g1, g2, g3, g4, hb8, -⟩; rw [HW.out]) | fail)
      all_goals (
        have hbu := HD1.out.trans (f5.then_below hb8)
        have HE := qh (RBPost.none (q := q) HO.out (HROW.out _ hbu).2.2)
        clear g1 g2 g3 g4 f1 f2 f3 f4
        go_wp2_with fail
        refine (need_no _).mono ?_
        rintro e w9 ⟨he, rfl⟩
        obtain rfl := he
        go_wp2_with fail
        exact ⟨rfl, HE.out⟩)
    | true =>
      have HO : Hid (O = some (⟨0, Word.ansBitsI p count, [], []⟩, r)) := qh (by rw [HO0.out]; simp [hw])
      have HW := qh hw
      clear HO0 hw
      go_wp2_with fail
      generalize ((w.alloc (.cells #[.int .i64 2, .int .i64 addr, .int .i64 count, .int .i64 to, .slice h.1 h.2.1 h.2.2, .slice k.1 k.2.1 k.2.2, u16v and_, u16v or_] 40)).alloc (.cells #[.int .i64 0, .slice none 0 0, .slice none 0 0, .slice none 0 0] 46)) = W at *
      go_region_with (first | (go_at_call 186; (with_reducible refine HC.out.mono ?_); rintro e w7 ⟨A7, c7, rfl, f1, f2, f3, f4, f5⟩; rw [HM7.out]; have rE := HCN.out _ (HD1.out.trans f5)) | (go_at_call 81; (with_reducible refine (bits_any A7 m7 c7 p count (by omega) HM7.out (by omega) _ f3).mono ?_); rintro e w8 ⟨A8, n8, c8, rfl, g1, g2, g3, g4, hb8, -⟩; rw [HW.out]) | fail)
      all_goals (
        have hbu := HD1.out.trans (f5.then_below hb8)
        have hr8 := qh (f4.below hb8)
        have hx8 : Hid (AnsIn w8 ⟨0, Word.ansBitsI p count, [], []⟩ (A8, n8, c8) (none, 0, 0) (none, 0, 0)) := qh ⟨g1, g2, g3, g4, rfl, zq _, Nat.zero_le _, Lies.nil _ _, rfl, zq _, Nat.zero_le _, Lies.nil _ _, by intro s hs; cases hs⟩
        clear g1 g2 g3 g4 f1 f2 f3 f4 f5 hb8
        go_wp2_with fail
        refine (need_yes _).mono ?_
        rintro e w9 ⟨rfl, rfl⟩
        have hRW := HROW.out _ hbu
        obtain ⟨z0, z1, z2, z3⟩ := row_quad hRW.2.1
        obtain ⟨y0, y1, y2, y3⟩ := row_quad_free hRW.2.1
        have HS4 := qh (stored_four hRW.2.1 (.int .i64 0) (.slice A8 n8 c8) (.slice none 0 0) (.slice none 0 0))
        have HE : Hid (RBPost w q O (.returned (ansV ⟨0, Word.ansBitsI p count, [], []⟩ (A8, n8, c8) (none, 0, 0) (none, 0, 0))) _) := qh (RBPost.some HO.out ((hx8.out).four hRW.2.1 (.int .i64 0) (.slice A8 n8 c8) (.slice none 0 0) (.slice none 0 0)) ((hr8.out).four (by omega) hRW.2.1 (.int .i64 0) (.slice A8 n8 c8) (.slice none 0 0) (.slice none 0 0)) (but_four hRW.2.2 (.inr (by omega)) (.int .i64 0) (.slice A8 n8 c8) (.slice none 0 0) (.slice none 0 0)))
        have hltz : w.heap.size + 1 < w9.heap.size := row_lt hRW.2.1
        have hltz0 : w.heap.size < w9.heap.size := by omega
        clear hRW hbu
        go_wp2_with fail
        obtain ⟨s0, s1, s2, s3⟩ := row_quad HS4.out
        refine bodyPost_ret_by (v := ansV ⟨0, Word.ansBitsI p count, [], []⟩ (A8, n8, c8) (none, 0, 0) (none, 0, 0)) (by simp [ansV, results, Tryz.f184, go_sem, s0, s1, s2, s3]) rfl ?_
        exact HE.out)
set_option maxRecDepth 100000 in
set_option maxHeartbeats 1000000 in
theorem rbody7_43 (addr count to : Int) (words : List UInt16) (bits : List Bool) (and_ or_ : UInt16) (h k : Hd) (q : Nat) (b : List UInt8) (w : World) (ha : AskIn w ⟨43, addr, count, to, words, bits, and_, or_⟩ h k) (hk : Ak.right ⟨43, addr, count, to, words, bits, and_, or_⟩ = true) (hr : RdAt w q b) :
    Calls Tryz.prog 184 #[.pointer (some ⟨q, 0, none⟩), askV ⟨43, addr, count, to, words, bits, and_, or_⟩ h k] w (RBPost w q (An.bodyR ⟨43, addr, count, to, words, bits, and_, or_⟩ b)) := by
  obtain ⟨hra, hrx, hb0, hlt1, hlt0⟩ := two_new7 w #[.int .i64 43, .int .i64 addr, .int .i64 count, .int .i64 to, .slice h.1 h.2.1 h.2.2, .slice k.1 k.2.1 k.2.2, u16v and_, u16v or_] #[.int .i64 0, .slice none 0 0, .slice none 0 0, .slice none 0 0] 40 46
  have hqw := hr.lt
  have hr0 := hr.below hb0
  have ha0 := ha.below hb0
  have hbu0 : But [q] w ((w.alloc (.cells #[.int .i64 43, .int .i64 addr, .int .i64 count, .int .i64 to, .slice h.1 h.2.1 h.2.2, .slice k.1 k.2.1 k.2.2, u16v and_, u16v or_] 40)).alloc (.cells #[.int .i64 0, .slice none 0 0, .slice none 0 0, .slice none 0 0] 46)) := But.of_below hb0 (zq _) [q]
  obtain ⟨O, hO⟩ : ∃ O, An.bodyR ⟨43, addr, count, to, words, bits, and_, or_⟩ b = O := ⟨_, rfl⟩
  have HO0 : Hid (O = (An.textsAll ⟨43, addr, count, to, words, bits, and_, or_⟩ b).map fun x => (⟨0, [], [], x.1⟩, x.2)) := qh (by rw [← hO]; rfl)
  rw [hO]
  clear hO
  obtain ⟨hfa, hfb, hfc, hfd, hfe⟩ : 0 ≤ addr ∧ addr ≤ 65535 ∧ 0 ≤ count ∧ count ≤ 255 ∧ True := by
    obtain ⟨-, hf, -, -, -, -, g0, g1, -⟩ := Ak.formed_parts (An.ak_right hk).1
    have := Ak.fits_most (m := 4) hf (by decide)
    dsimp only at this g0 g1
    exact ⟨g0, g1, by omega, by omega, trivial⟩
  obtain ⟨an, rfl⟩ := Int.eq_ofNat_of_zero_le hfa
  have HROW : Hid (∀ V, But [q] ((w.alloc (.cells #[.int .i64 43, .int .i64 (an : Int), .int .i64 count, .int .i64 to, .slice h.1 h.2.1 h.2.2, .slice k.1 k.2.1 k.2.2, u16v and_, u16v or_] 40)).alloc (.cells #[.int .i64 0, .slice none 0 0, .slice none 0 0, .slice none 0 0] 46)) V → V.heap[w.heap.size]? = some (.cells #[.int .i64 43, .int .i64 (an : Int), .int .i64 count, .int .i64 to, .slice h.1 h.2.1 h.2.2, .slice k.1 k.2.1 k.2.2, u16v and_, u16v or_] 40 (0, 0)) ∧ V.heap[w.heap.size + 1]? = some (.cells #[.int .i64 0, .slice none 0 0, .slice none 0 0, .slice none 0 0] 46 (0, 0)) ∧ But [q] w V) := qh (fun V hV => ⟨row_but hra hV (by simp; omega), row_but hrx hV (by simp; omega), hbu0.trans hV⟩)
  have HT := qh (rtexts7_any ⟨43, (an : Int), count, to, words, bits, and_, or_⟩ h k q an b rfl (by omega) hfc hfd _ hr0)
  rw [askV_eq] at HT
  rw [askV_eq]
  clear ha ha0 hk hr hr0 hfa hfb hfc hfd hfe
  go_enter Tryz.func184, Tryz.ntmps184
  obtain ⟨r0, r1, r2, r3, r4, r5, r6, r7⟩ := row_eight hra
  cases hta : An.textsAll ⟨43, (an : Int), count, to, words, bits, and_, or_⟩ b with
  | none =>
    have HO : Hid (O = none) := qh (by rw [HO0.out, hta]; rfl)
    rw [hta] at HT
    clear HO0 hta
    go_wp2_with fail
    refine HT.out.mono ?_
    rintro e w7 ⟨he, hb7⟩
    obtain rfl := he
    have HE := qh (RBPost.none (q := q) HO.out (HROW.out _ hb7).2.2)
    go_wp2_with fail
    exact ⟨rfl, HE.out⟩
  | some lr =>
    obtain ⟨l, r⟩ := lr
    have HO : Hid (O = some (⟨0, [], [], l⟩, r)) := qh (by rw [HO0.out, hta]; rfl)
    have HSM : Hid (∀ s ∈ l, s.size ≤ 255) := qh (by
      unfold An.textsAll at hta
      split at hta
      · cases hta
      · cases hta
      · exact An.textsR_small _ _ _ _ _ hta)
    rw [hta] at HT
    clear HO0 hta
    go_wp2_with fail
    refine HT.out.mono ?_
    rintro e w8 ⟨A8, n8, c8, rfl, g1, g2, g3, g4, g5, hbu⟩
    have hr8 := qh g5
    have hx8 : Hid (AnsIn w8 ⟨0, [], [], l⟩ (none, 0, 0) (none, 0, 0) (A8, n8, c8)) := qh ⟨rfl, zq _, Nat.zero_le _, Lies.nil _ _, rfl, zq _, Nat.zero_le _, Lies.nil _ _, g1, g2, g3, g4, fun s hs => Nat.le_trans (HSM.out s hs) (by omega)⟩
    clear g1 g2 g3 g4 g5
    have hRW := HROW.out _ hbu
    obtain ⟨z0, z1, z2, z3⟩ := row_quad hRW.2.1
    obtain ⟨y0, y1, y2, y3⟩ := row_quad_free hRW.2.1
    have HS4 := qh (stored_four hRW.2.1 (.int .i64 0) (.slice none 0 0) (.slice none 0 0) (.slice A8 n8 c8))
    have HE : Hid (RBPost w q O (.returned (ansV ⟨0, [], [], l⟩ (none, 0, 0) (none, 0, 0) (A8, n8, c8))) _) := qh (RBPost.some HO.out ((hx8.out).four hRW.2.1 (.int .i64 0) (.slice none 0 0) (.slice none 0 0) (.slice A8 n8 c8)) ((hr8.out).four (by omega) hRW.2.1 (.int .i64 0) (.slice none 0 0) (.slice none 0 0) (.slice A8 n8 c8)) (but_four hRW.2.2 (.inr (by omega)) (.int .i64 0) (.slice none 0 0) (.slice none 0 0) (.slice A8 n8 c8)))
    have hltz : w.heap.size + 1 < w8.heap.size := row_lt hRW.2.1
    have hltz0 : w.heap.size < w8.heap.size := by omega
    clear hRW hbu
    go_wp2_with fail
    obtain ⟨s0, s1, s2, s3⟩ := row_quad HS4.out
    refine bodyPost_ret_by (v := ansV ⟨0, [], [], l⟩ (none, 0, 0) (none, 0, 0) (A8, n8, c8)) (by simp [ansV, results, Tryz.f184, go_sem, s0, s1, s2, s3]) rfl ?_
    exact HE.out

set_option maxRecDepth 100000 in
set_option maxHeartbeats 1000000 in
theorem rbody7_5 (code : Int) (hcode : code = 5 ∨ code = 6 ∨ code = 22 ∨ code = 15 ∨ code = 16) (addr count to : Int) (words : List UInt16) (bits : List Bool) (and_ or_ : UInt16) (h k : Hd) (q : Nat) (b : List UInt8) (w : World) (ha : AskIn w ⟨code, addr, count, to, words, bits, and_, or_⟩ h k) (hk : Ak.right ⟨code, addr, count, to, words, bits, and_, or_⟩ = true) (hr : RdAt w q b) :
    Calls Tryz.prog 184 #[.pointer (some ⟨q, 0, none⟩), askV ⟨code, addr, count, to, words, bits, and_, or_⟩ h k] w (RBPost w q (An.bodyR ⟨code, addr, count, to, words, bits, and_, or_⟩ b)) := by
  obtain ⟨hra, hrx, hb0, hlt1, hlt0⟩ := two_new7 w #[.int .i64 code, .int .i64 addr, .int .i64 count, .int .i64 to, .slice h.1 h.2.1 h.2.2, .slice k.1 k.2.1 k.2.2, u16v and_, u16v or_] #[.int .i64 0, .slice none 0 0, .slice none 0 0, .slice none 0 0] 40 46
  have hqw := hr.lt
  have hr0 := hr.below hb0
  have ha0 := ha.below hb0
  have hbu0 : But [q] w ((w.alloc (.cells #[.int .i64 code, .int .i64 addr, .int .i64 count, .int .i64 to, .slice h.1 h.2.1 h.2.2, .slice k.1 k.2.1 k.2.2, u16v and_, u16v or_] 40)).alloc (.cells #[.int .i64 0, .slice none 0 0, .slice none 0 0, .slice none 0 0] 46)) := But.of_below hb0 (zq _) [q]
  obtain ⟨O, hO⟩ : ∃ O, An.bodyR ⟨code, addr, count, to, words, bits, and_, or_⟩ b = O := ⟨_, rfl⟩
  have HO0 : Hid (O = (An.justR (An.echo ⟨code, addr, count, to, words, bits, and_, or_⟩) b).map fun r => (An.zero, r)) := qh (by rcases hcode with rfl | rfl | rfl | rfl | rfl <;> (rw [← hO]; rfl))
  rw [hO]
  clear hO
  have HROW : Hid (∀ V, But [q] ((w.alloc (.cells #[.int .i64 code, .int .i64 addr, .int .i64 count, .int .i64 to, .slice h.1 h.2.1 h.2.2, .slice k.1 k.2.1 k.2.2, u16v and_, u16v or_] 40)).alloc (.cells #[.int .i64 0, .slice none 0 0, .slice none 0 0, .slice none 0 0] 46)) V → V.heap[w.heap.size]? = some (.cells #[.int .i64 code, .int .i64 addr, .int .i64 count, .int .i64 to, .slice h.1 h.2.1 h.2.2, .slice k.1 k.2.1 k.2.2, u16v and_, u16v or_] 40 (0, 0)) ∧ V.heap[w.heap.size + 1]? = some (.cells #[.int .i64 0, .slice none 0 0, .slice none 0 0, .slice none 0 0] 46 (0, 0)) ∧ But [q] w V) := qh (fun V hV => ⟨row_but hra hV (by simp; omega), row_but hrx hV (by simp; omega), hbu0.trans hV⟩)
  have HEC := qh (echo7_any ⟨code, addr, count, to, words, bits, and_, or_⟩ h k _ ha0 hk (by rcases hcode with rfl | rfl | rfl | rfl | rfl <;> simp))
  have hr1 := qh hr0
  rw [askV_eq] at HEC
  rw [askV_eq]
  clear ha ha0 hk hr hr0
  obtain ⟨J, hj⟩ : ∃ J, An.justR (An.echo ⟨code, addr, count, to, words, bits, and_, or_⟩) b = J := ⟨_, rfl⟩
  rcases hcode with rfl | rfl | rfl | rfl | rfl
  all_goals
    go_enter Tryz.func184, Tryz.ntmps184
    obtain ⟨r0, r1, r2, r3, r4, r5, r6, r7⟩ := row_eight hra
    go_wp2_with fail
    refine HEC.out.mono ?_
    rintro e w7 ⟨A7, n7, c7, rfl, f1, f2, f3, f4, hb7⟩
    have hr7 := hr1.out.below hb7
    have hb7' := But.of_below hb7 (zq _) [q]
    cases J with
    | none =>
      have HO : Hid (O = none) := qh (by rw [HO0.out, hj]; rfl)
      have HJ := qh (just_no q b _ A7 n7 c7 f1 w7 f4 hr7 hj)
      clear f1 f2 f3 f4 hr7 hj HO0
      go_wp2_with fail
      refine HJ.out.mono ?_
      rintro e w8 ⟨he, hb8⟩
      obtain rfl := he
      have HE := qh (RBPost.none (q := q) HO.out (HROW.out _ (hb7'.trans hb8)).2.2)
      go_wp2_with fail
      exact ⟨rfl, HE.out⟩
    | some r =>
      have HO : Hid (O = some (An.zero, r)) := qh (by rw [HO0.out, hj]; rfl)
      have HJ := qh (just_yes q b _ r A7 n7 c7 f1 w7 f4 hr7 hj)
      clear f1 f2 f3 f4 hr7 hj HO0
      go_wp2_with fail
      refine HJ.out.mono ?_
      rintro e w8 ⟨rfl, g5, hb8⟩
      have hbu := hb7'.trans hb8
      have hr8 := qh g5
      have hx8 := qh (AnsIn.zero w8)
      clear g5 hb8 hb7 hb7'
      have hRW := HROW.out _ hbu
      obtain ⟨z0, z1, z2, z3⟩ := row_quad hRW.2.1
      obtain ⟨y0, y1, y2, y3⟩ := row_quad_free hRW.2.1
      have HS4 := qh (stored_four hRW.2.1 (.int .i64 0) (.slice none 0 0) (.slice none 0 0) (.slice none 0 0))
      have HE : Hid (RBPost w q O (.returned (ansV An.zero (none, 0, 0) (none, 0, 0) (none, 0, 0))) _) := qh (RBPost.some HO.out ((hx8.out).four hRW.2.1 (.int .i64 0) (.slice none 0 0) (.slice none 0 0) (.slice none 0 0)) ((hr8.out).four (by omega) hRW.2.1 (.int .i64 0) (.slice none 0 0) (.slice none 0 0) (.slice none 0 0)) (but_four hRW.2.2 (.inr (by omega)) (.int .i64 0) (.slice none 0 0) (.slice none 0 0) (.slice none 0 0)))
      have hltz : w.heap.size + 1 < w8.heap.size := row_lt hRW.2.1
      have hltz0 : w.heap.size < w8.heap.size := by omega
      clear hRW hbu
      go_wp2_with fail
      obtain ⟨s0, s1, s2, s3⟩ := row_quad HS4.out
      refine bodyPost_ret_by (v := ansV An.zero (none, 0, 0) (none, 0, 0) (none, 0, 0)) (by simp [ansV, An.zero, results, Tryz.f184, go_sem, s0, s1, s2, s3]) rfl ?_
      exact HE.out

theorem rbody7_any (a : Ask) (h k : Hd) (q : Nat) (b : List UInt8) (w : World) (ha : AskIn w a h k) (hk : Ak.right a = true) (hr : RdAt w q b) :
    Calls Tryz.prog 184 #[.pointer (some ⟨q, 0, none⟩), askV a h k] w (RBPost w q (An.bodyR a b)) := by
  have hcd := (Ak.formed_parts (An.ak_right hk).1).1
  simp only [Ak.codes, List.mem_cons, List.not_mem_nil, or_false] at hcd
  obtain ⟨code, addr, count, to, words, bits, and_, or_⟩ := a
  rcases hcd with hc | hc | hc | hc | hc | hc | hc | hc | hc | hc | hc
  · obtain rfl : code = 1 := hc
    exact rbody7_1 addr count to words bits and_ or_ h k q b w ha hk hr
  · obtain rfl : code = 2 := hc
    exact rbody7_2 addr count to words bits and_ or_ h k q b w ha hk hr
  · obtain rfl : code = 3 := hc
    exact rbody7_3 3 (.inl rfl) addr count to words bits and_ or_ h k q b w ha hr
  · obtain rfl : code = 4 := hc
    exact rbody7_3 4 (.inr (.inl rfl)) addr count to words bits and_ or_ h k q b w ha hr
  · obtain rfl : code = 5 := hc
    exact rbody7_5 5 (.inl rfl) addr count to words bits and_ or_ h k q b w ha hk hr
  · obtain rfl : code = 6 := hc
    exact rbody7_5 6 (.inr (.inl rfl)) addr count to words bits and_ or_ h k q b w ha hk hr
  · obtain rfl : code = 15 := hc
    exact rbody7_5 15 (.inr (.inr (.inr (.inl rfl)))) addr count to words bits and_ or_ h k q b w ha hk hr
  · obtain rfl : code = 16 := hc
    exact rbody7_5 16 (.inr (.inr (.inr (.inr (rfl))))) addr count to words bits and_ or_ h k q b w ha hk hr
  · obtain rfl : code = 22 := hc
    exact rbody7_5 22 (.inr (.inr (.inl rfl))) addr count to words bits and_ or_ h k q b w ha hk hr
  · obtain rfl : code = 23 := hc
    exact rbody7_3 23 (.inr (.inr (rfl))) addr count to words bits and_ or_ h k q b w ha hr
  · obtain rfl : code = 43 := hc
    exact rbody7_43 addr count to words bits and_ or_ h k q b w ha hk hr

end Go.Proofs.YtlgmjnjhdamknaaGreat
