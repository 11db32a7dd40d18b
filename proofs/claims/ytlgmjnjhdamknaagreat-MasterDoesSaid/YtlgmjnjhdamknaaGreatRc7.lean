
/- A part of the proof of the law MasterDoes. -/
import Derived.Test.YtlgmjnjhdamknaaGreatMem
import Derived.Test.YtlgmjnjhdamknaaGreatAs7
import Derived.Defers
import Derived.Recover
namespace Go.Proofs.YtlgmjnjhdamknaaGreat
open Go.RowKit

set_option maxRecDepth 100000 in
set_option maxHeartbeats 1000000 in
theorem catch_panicking (g k : Nat) (u : TypeId) (pv : Value) (older : List PanicEntry) (w : World) {c0 c1 c2 c3 d0 : Value} (hx : w.heap[g]? = some (.cells #[c0, c1, c2, c3] 46 (0, 0))) (he : w.heap[k]? = some (.cells #[d0] 28 (0, 0))) (hne : k ≠ g) :
    CallsD Tryz.prog 179 #[.pointer (some ⟨g, 0, none⟩), .pointer (some ⟨k, 0, none⟩)] (.panicking ({ v := .iface u pv, recovered := false } :: older)) w fun e u' w' =>
      e = .returned (.tuple #[]) ∧ u' = .panicking ({ v := .iface u pv, recovered := true } :: older) ∧ w' = (((((w.setCell ⟨g, 0, none⟩ (.int .i64 0)).setCell ⟨g, 1, none⟩ (.slice none 0 0)).setCell ⟨g, 2, none⟩ (.slice none 0 0)).setCell ⟨g, 3, none⟩ (.slice none 0 0)).setCell ⟨k, 0, none⟩ (.int .i64 2)) := by
  obtain ⟨z0, z1, z2, z3⟩ := row_quad hx
  obtain ⟨y0, y1, y2, y3⟩ := row_quad_free hx
  obtain ⟨zk, yk⟩ := row_one he
  refine callsD_of_wpS Tryz.func179 rfl fun c₀ cs hu => ?_
  apply wpS_seq
  apply wpS_region
  simp [wpOpsS, go_sem, recoverD, hu, Tryz.ntmps179, Exit.thenS]
  refine wpS_cond (t := true) (by simp [Act.eval, Array.replicate]) ?_
  simp only [if_true]
  apply wpS_region
  simp [wpOpsS, go_sem, z0, z1, z2, z3, y0, y1, y2, y3, zk, yk, bodyPostS, results, Tryz.results179]

theorem catch_idle (p q : Addr) (w : World) :
    CallsD Tryz.prog 179 #[.pointer (some p), .pointer (some q)] .returning w fun e u' w' => e = .returned (.tuple #[]) ∧ u' = .returning ∧ w' = w := by
  refine callsD_of_wpS Tryz.func179 rfl fun c₀ cs hu => ?_
  apply wpS_seq
  apply wpS_region
  simp [wpOpsS, go_sem, recoverD, hu, Tryz.ntmps179, Exit.thenS]
  refine wpS_cond (t := false) (by simp [Act.eval, Array.replicate]) ?_
  simp only [Bool.false_eq_true, if_false]
  refine wpS_of_wp (wp_skip ?_)
  cases c₀
  simp_all [bodyPostS, results, Tryz.results179]
def ARPost (w : World) (r : Ans × Nat) (e : Ending) (w' : World) : Prop :=
  ∃ h k t, e = .returned (.tuple #[ansV r.1 h k t, .int .i64 ((r.2 : Nat) : Int)]) ∧ AnsIn w' r.1 h k t ∧ Below w.heap.size w w'
theorem An.answerR_few {a : Ask} {b r : List UInt8} {x : Ans} (h : An.answerR a b = some (x, r)) : x.texts.length ≤ 1000000 := by
  cases b with
  | nil => cases h
  | cons c t =>
    rw [An.answerR_cons] at h
    split at h
    · cases t with
      | nil => cases h
      | cons y t2 =>
        simp only at h
        split at h
        · cases h
        · simp only [Option.some.injEq, Prod.mk.injEq] at h
          obtain ⟨rfl, rfl⟩ := h
          simp
    · split at h
      · unfold An.bodyR at h
        split at h
        · split at h
          · cases h
          · split at h
            · simp only [Option.some.injEq, Prod.mk.injEq] at h
              obtain ⟨rfl, rfl⟩ := h
              simp
            · cases h
        · split at h
          · split at h
            · cases h
            · split at h
              · simp only [Option.some.injEq, Prod.mk.injEq] at h
                obtain ⟨rfl, rfl⟩ := h
                simp
              · cases h
          · split at h
            · obtain ⟨⟨l, z⟩, hl, he⟩ := Option.map_eq_some_iff.1 h
              simp only [Prod.mk.injEq] at he
              obtain ⟨rfl, rfl⟩ := he
              unfold An.textsAll at hl
              split at hl
              · cases hl
              · cases hl
              · next n r2 hj =>
                have h1 := (An.textsR_some _ _ _ _ _ hl).1
                have h2 := n.toNat_lt
                dsimp only
                omega
            · obtain ⟨r3, hl, he⟩ := Option.map_eq_some_iff.1 h
              simp only [Prod.mk.injEq] at he
              obtain ⟨rfl, rfl⟩ := he
              simp [An.zero]
      · cases h
theorem AnsIn.one {w : World} {x : Ans} {h k t : Hd} {g : Nat} {n : Int} {T : TypeId} (i : AnsIn w x h k t) (hg : w.heap[g]? = some (.cells #[.int .i64 n] T (0, 0))) (d : Value) : AnsIn (w.setCell ⟨g, 0, none⟩ d) x h k t := by
  have hone : ∀ (j : Nat) (v : Value), (#[.int .i64 n] : Array Value)[j]? = some v → v = .int .i64 n := fun j v hv => by
    rcases j with _ | j
    · simpa using hv.symm
    · simp at hv
  refine i.but ((But.refl [g] w).setCell (p := ⟨g, 0, none⟩) (.inl (by simp)) d) ?_ ?_ ?_
  · exact far_row hg i.hl fun y j v hv => by rw [hone j v hv]; simp
  · exact far_row hg i.kl fun y j v hv => by rw [hone j v hv]; simp
  · exact far_row hg i.tl fun y j v hv => by rw [hone j v hv]; simp
theorem caught_post {w V : World} {g k : Nat} (hb : Below w.heap.size w V) (hg : w.heap.size ≤ g) (hk : w.heap.size ≤ k) :
    ARPost w (An.zero, 2) (.returned (.tuple #[.agg #[.int .i64 0, .slice none 0 0, .slice none 0 0, .slice none 0 0], .int .i64 2])) (((((V.setCell ⟨g, 0, none⟩ (.int .i64 0)).setCell ⟨g, 1, none⟩ (.slice none 0 0)).setCell ⟨g, 2, none⟩ (.slice none 0 0)).setCell ⟨g, 3, none⟩ (.slice none 0 0)).setCell ⟨k, 0, none⟩ (.int .i64 2)) :=
  ⟨(none, 0, 0), (none, 0, 0), (none, 0, 0), rfl, AnsIn.zero _, ((((hb.setCell (p := ⟨g, 0, none⟩) hg _).setCell (p := ⟨g, 1, none⟩) hg _).setCell (p := ⟨g, 2, none⟩) hg _).setCell (p := ⟨g, 3, none⟩) hg _).setCell (p := ⟨k, 0, none⟩) hk _⟩
set_option maxRecDepth 100000 in
set_option maxHeartbeats 1000000 in
theorem read7i_any (a : Ask) (h k : Hd) (B : Option Addr) (n c : Nat) (b : List UInt8) (hn : b.length = n) (hnc : n ≤ c) (hcm : c ≤ maxLen) (w : World) (ha : AskIn w a h k) (hk : Ak.right a = true) (hb : Lies u8v w B b) :
    Calls Tryz.prog 176 #[askV a h k, .slice B n c] w (ARPost w (An.readR a b)) := by
  obtain ⟨code, addr, count, to, words, bits, and_, or_⟩ := a
  have hmf : ∀ (fn : Fn) (first cap : Array Value) (w : World), (Instr.makeFunc fn first cap).run Tryz.prog w = .ok (.func fn first cap) w := fun _ _ _ _ => rfl
  have hra := old_at7 (old_at7 (old_at7 (row_at w #[.int .i64 code, .int .i64 addr, .int .i64 count, .int .i64 to, .slice h.1 h.2.1 h.2.2, .slice k.1 k.2.1 k.2.2, u16v and_, u16v or_] 40 w.heap.size rfl) (.cells #[.int .i64 0, .slice none 0 0, .slice none 0 0, .slice none 0 0] 46)) (.cells #[.int .i64 0] 28)) (.cells #[.slice B n c] 220)
  have hrx := old_at7 (old_at7 (row_at (w.alloc (.cells #[.int .i64 code, .int .i64 addr, .int .i64 count, .int .i64 to, .slice h.1 h.2.1 h.2.2, .slice k.1 k.2.1 k.2.2, u16v and_, u16v or_] 40)) #[.int .i64 0, .slice none 0 0, .slice none 0 0, .slice none 0 0] 46 (w.heap.size + 1) (by simp)) (.cells #[.int .i64 0] 28)) (.cells #[.slice B n c] 220)
  have hre := old_at7 (row_at ((w.alloc (.cells #[.int .i64 code, .int .i64 addr, .int .i64 count, .int .i64 to, .slice h.1 h.2.1 h.2.2, .slice k.1 k.2.1 k.2.2, u16v and_, u16v or_] 40)).alloc (.cells #[.int .i64 0, .slice none 0 0, .slice none 0 0, .slice none 0 0] 46)) #[.int .i64 0] 28 (w.heap.size + 1 + 1) (by simp)) (.cells #[.slice B n c] 220)
  have hrr := row_at ((((w.alloc (.cells #[.int .i64 code, .int .i64 addr, .int .i64 count, .int .i64 to, .slice h.1 h.2.1 h.2.2, .slice k.1 k.2.1 k.2.2, u16v and_, u16v or_] 40)).alloc (.cells #[.int .i64 0, .slice none 0 0, .slice none 0 0, .slice none 0 0] 46))).alloc (.cells #[.int .i64 0] 28)) #[.slice B n c] 220 (w.heap.size + 1 + 1 + 1) (by simp)
  have hb0 : Below w.heap.size w (((((w.alloc (.cells #[.int .i64 code, .int .i64 addr, .int .i64 count, .int .i64 to, .slice h.1 h.2.1 h.2.2, .slice k.1 k.2.1 k.2.2, u16v and_, u16v or_] 40)).alloc (.cells #[.int .i64 0, .slice none 0 0, .slice none 0 0, .slice none 0 0] 46))).alloc (.cells #[.int .i64 0] 28)).alloc (.cells #[.slice B n c] 220)) := ((((Below.refl _ _).alloc (zq _) _).alloc (by simp) _).alloc (by simp; omega) _).alloc (by simp; omega) _
  have hrd : RdAt (((((w.alloc (.cells #[.int .i64 code, .int .i64 addr, .int .i64 count, .int .i64 to, .slice h.1 h.2.1 h.2.2, .slice k.1 k.2.1 k.2.2, u16v and_, u16v or_] 40)).alloc (.cells #[.int .i64 0, .slice none 0 0, .slice none 0 0, .slice none 0 0] 46))).alloc (.cells #[.int .i64 0] 28)).alloc (.cells #[.slice B n c] 220)) (w.heap.size + 1 + 1 + 1) b := ⟨B, n, c, hrr, hn, hnc, hcm, hb.below hb0 (zq _)⟩
  have HA := qh (ranswer7_any ⟨code, addr, count, to, words, bits, and_, or_⟩ h k (w.heap.size + 1 + 1 + 1) b _ (ha.below hb0) hk hrd)
  have HROW : Hid (∀ V, But [w.heap.size + 1 + 1 + 1] (((((w.alloc (.cells #[.int .i64 code, .int .i64 addr, .int .i64 count, .int .i64 to, .slice h.1 h.2.1 h.2.2, .slice k.1 k.2.1 k.2.2, u16v and_, u16v or_] 40)).alloc (.cells #[.int .i64 0, .slice none 0 0, .slice none 0 0, .slice none 0 0] 46))).alloc (.cells #[.int .i64 0] 28)).alloc (.cells #[.slice B n c] 220)) V → V.heap[w.heap.size]? = some (.cells #[.int .i64 code, .int .i64 addr, .int .i64 count, .int .i64 to, .slice h.1 h.2.1 h.2.2, .slice k.1 k.2.1 k.2.2, u16v and_, u16v or_] 40 (0, 0)) ∧ V.heap[w.heap.size + 1]? = some (.cells #[.int .i64 0, .slice none 0 0, .slice none 0 0, .slice none 0 0] 46 (0, 0)) ∧ V.heap[w.heap.size + 1 + 1]? = some (.cells #[.int .i64 0] 28 (0, 0)) ∧ Below w.heap.size w V) := qh (fun V hV => ⟨row_but hra hV (by simp; omega), row_but hrx hV (by simp), row_but hre hV (by simp), hb0.trans (hV.below (by simp; omega) hb0.size)⟩)
  obtain ⟨r0, r1, r2, r3, r4, r5, r6, r7⟩ := row_eight hra
  rw [askV_eq] at HA
  rw [askV_eq]
  obtain ⟨O, hO⟩ : ∃ O, An.readR ⟨code, addr, count, to, words, bits, and_, or_⟩ b = O := ⟨_, rfl⟩
  have HRR : Hid (O = match An.answerR ⟨code, addr, count, to, words, bits, and_, or_⟩ b with | none => (An.zero, 2) | some (x, r) => if r = [] ∧ An.right ⟨code, addr, count, to, words, bits, and_, or_⟩ x = true then (x, 0) else (An.zero, 2)) := qh (by rw [← hO]; rfl)
  rw [hO]
  have HK := qh hk
  clear hO ha hb hrd hn hnc hcm hra hrx hre hrr hk
  cases hans : An.answerR ⟨code, addr, count, to, words, bits, and_, or_⟩ b with
  | none =>
    have HO : Hid (O = (An.zero, 2)) := qh (by rw [HRR.out, hans])
    rw [hans] at HA
    clear HRR hans
    go_enter_defers Tryz.func176, Tryz.ntmps176
    go_wp2_with fail
    refine HA.out.mono ?_
    rintro e w2 ⟨he, hb2⟩
    obtain rfl := he
    obtain ⟨q1, q2, q3, q4⟩ := HROW.out _ hb2
    have HQ2 := qh q2
    have HQ3 := qh q3
    have HQ4 := qh q4
    go_wp2_with fail
    refine leaves_cons (f := 179) (args := #[.pointer (some ⟨w.heap.size + 1, 0, none⟩), .pointer (some ⟨w.heap.size + 1 + 1, 0, none⟩)]) (by simp) (by simp [go_sem]) ?_
    refine (catch_panicking (w.heap.size + 1) (w.heap.size + 1 + 1) _ _ [] _ HQ2.out HQ3.out (by omega)).mono ?_
    rintro e u' w'' ⟨rfl, rfl, rfl⟩
    have HSX := row_but (stored_four HQ2.out (.int .i64 0) (.slice none 0 0) (.slice none 0 0) (.slice none 0 0)) ((But.refl [w.heap.size + 1 + 1] _).setCell (p := ⟨w.heap.size + 1 + 1, 0, none⟩) (.inl (by simp)) (.int .i64 2)) (show w.heap.size + 1 ∉ [w.heap.size + 1 + 1] by simp <;> omega)
    have HSE := one_stored (row_but HQ3.out (but_four (g := w.heap.size + 1) (But.refl [w.heap.size + 1] w2) (.inl (by simp)) (.int .i64 0) (.slice none 0 0) (.slice none 0 0) (.slice none 0 0)) (show w.heap.size + 1 + 1 ∉ [w.heap.size + 1] by simp <;> omega)) (.int .i64 2)
    obtain ⟨s0, s1, s2, s3⟩ := row_quad HSX
    obtain ⟨k0, -⟩ := row_one HSE
    have HFIN := caught_post (g := w.heap.size + 1) (k := w.heap.size + 1 + 1) HQ4.out (by omega) (by omega)
    rw [← HO.out] at HFIN
    clear HSX HSE
    simp [Leaves, settle, results, Tryz.results176, go_sem, s0, s1, s2, s3, k0]
    exact HFIN
  | some xr =>
    obtain ⟨⟨xe, xb, xw, xt⟩, r⟩ := xr
    have hfew := An.answerR_few hans
    have HO0 : Hid (O = if r = [] ∧ An.right ⟨code, addr, count, to, words, bits, and_, or_⟩ ⟨xe, xb, xw, xt⟩ = true then (⟨xe, xb, xw, xt⟩, 0) else (An.zero, 2)) := qh (by rw [HRR.out, hans])
    rw [hans] at HA
    clear HRR hans
    go_enter_defers Tryz.func176, Tryz.ntmps176
    go_wp2_with fail
    refine HA.out.mono ?_
    rintro e w2 ⟨⟨hA, hN, hC⟩, ⟨kA, kN, kC⟩, ⟨tA, tN, tC⟩, rfl, hx2, hr2, hb2⟩
    obtain ⟨q1, q2, q3, q4⟩ := HROW.out _ hb2
    obtain ⟨B2, n2, c2, hrow2, hrl, -⟩ := hr2
    obtain ⟨z0, z1, z2, z3⟩ := row_quad q2
    obtain ⟨y0, y1, y2, y3⟩ := row_quad_free q2
    rw [ansV_eq]
    dsimp only
    have hlt1 : w.heap.size + 1 < w2.heap.size := row_lt q2
    have hlt0 : w.heap.size < w2.heap.size := by omega
    have hlt3 : w.heap.size + 1 + 1 + 1 < w2.heap.size := row_lt hrow2
    have hbs := but_four (g := w.heap.size + 1) (But.refl [w.heap.size + 1] w2) (.inl (by simp)) (.int .i64 xe) (.slice hA hN hC) (.slice kA kN kC) (.slice tA tN tC)
    have p1 := qh (row_but q1 hbs (show w.heap.size ∉ [w.heap.size + 1] by simp <;> omega))
    have p2 := qh (stored_four q2 (.int .i64 xe) (.slice hA hN hC) (.slice kA kN kC) (.slice tA tN tC))
    have p3 := qh (row_but q3 hbs (show w.heap.size + 1 + 1 ∉ [w.heap.size + 1] by simp <;> omega))
    have pr := qh (row_but hrow2 hbs (show w.heap.size + 1 + 1 + 1 ∉ [w.heap.size + 1] by simp <;> omega))
    have p4 := qh ((((q4.setCell (p := ⟨w.heap.size + 1, 0, none⟩) (by simp) (.int .i64 xe)).setCell (p := ⟨w.heap.size + 1, 1, none⟩) (by simp) (.slice hA hN hC)).setCell (p := ⟨w.heap.size + 1, 2, none⟩) (by simp) (.slice kA kN kC)).setCell (p := ⟨w.heap.size + 1, 3, none⟩) (by simp) (.slice tA tN tC))
    have px := qh (hx2.four q2 (.int .i64 xe) (.slice hA hN hC) (.slice kA kN kC) (.slice tA tN tC))
    have HRL := qh hrl
    have HCM := qh (fun V (hV : AnsIn V ⟨xe, xb, xw, xt⟩ (hA, hN, hC) (kA, kN, kC) (tA, tN, tC)) => comes7_any ⟨code, addr, count, to, words, bits, and_, or_⟩ ⟨xe, xb, xw, xt⟩ h k (hA, hN, hC) (kA, kN, kC) (tA, tN, tC) V hV (by rw [← hV.tn]; exact hfew) HK.out)
    rw [askV_eq, ansV_eq] at HCM
    dsimp only at HCM
    obtain ⟨r0, r1, r2, r3, r4, r5, r6, r7⟩ := row_eight q1
    obtain ⟨u0, -⟩ := row_one hrow2
    clear q1 q2 q3 q4 hrow2 hbs hx2 hb2 hrl hfew
    by_cases h0 : n2 = 0
    · have e0 : ((n2 : Int) == 0) = true := by rw [h0]; rfl
      have hre : r = [] := List.eq_nil_of_length_eq_zero (by rw [HRL.out, h0])
      clear h0
      go_wp2_with fail
      refine (HCM.out _ px.out).mono ?_
      rintro e w3 ⟨rfl, hb3⟩
      have t1 := row_later p1.out hb3
      have t2 := row_later p2.out hb3
      have t3 := row_later p3.out hb3
      have t4 : Below w.heap.size w w3 := p4.out.trans (hb3.mono p4.out.size)
      have tx := px.out.below hb3
      clear p1 p2 p3 p4 px pr hb3 z0 z1 z2 z3 y0 y1 y2 y3 u0 r0 r1 r2 r3 r4 r5 r6 r7 hlt1 hlt0 hlt3
      cases hR : An.right ⟨code, addr, count, to, words, bits, and_, or_⟩ ⟨xe, xb, xw, xt⟩ with
      | false =>
        have HO : Hid (O = (An.zero, 2)) := qh (by rw [HO0.out, hR, if_neg (by simp)])
        clear hR tx
        go_wp2_with fail
        refine (need_no _).mono ?_
        rintro e w4 ⟨he, rfl⟩
        obtain rfl := he
        have HQ2 := qh t2
        have HQ3 := qh t3
        have HQ4 := qh t4
        go_wp2_with fail
        refine leaves_cons (f := 179) (args := #[.pointer (some ⟨w.heap.size + 1, 0, none⟩), .pointer (some ⟨w.heap.size + 1 + 1, 0, none⟩)]) (by simp) (by simp [go_sem]) ?_
        refine (catch_panicking (w.heap.size + 1) (w.heap.size + 1 + 1) _ _ [] _ HQ2.out HQ3.out (by omega)).mono ?_
        rintro e u' w'' ⟨rfl, rfl, rfl⟩
        have HSX := row_but (stored_four HQ2.out (.int .i64 0) (.slice none 0 0) (.slice none 0 0) (.slice none 0 0)) ((But.refl [w.heap.size + 1 + 1] _).setCell (p := ⟨w.heap.size + 1 + 1, 0, none⟩) (.inl (by simp)) (.int .i64 2)) (show w.heap.size + 1 ∉ [w.heap.size + 1 + 1] by simp <;> omega)
        have HSE := one_stored (row_but HQ3.out (but_four (g := w.heap.size + 1) (But.refl [w.heap.size + 1] w4) (.inl (by simp)) (.int .i64 0) (.slice none 0 0) (.slice none 0 0) (.slice none 0 0)) (show w.heap.size + 1 + 1 ∉ [w.heap.size + 1] by simp <;> omega)) (.int .i64 2)
        obtain ⟨s0, s1, s2, s3⟩ := row_quad HSX
        obtain ⟨k0, -⟩ := row_one HSE
        have HFIN := caught_post (g := w.heap.size + 1) (k := w.heap.size + 1 + 1) HQ4.out (by omega) (by omega)
        rw [← HO.out] at HFIN
        clear HSX HSE
        simp [Leaves, settle, results, Tryz.results176, go_sem, s0, s1, s2, s3, k0]
        exact HFIN

      | true =>
        have HO : Hid (O = (⟨xe, xb, xw, xt⟩, 0)) := qh (by rw [HO0.out, hR, if_pos ⟨hre, rfl⟩])
        clear hR
        go_wp2_with fail
        refine (need_yes _).mono ?_
        rintro e w4 ⟨rfl, rfl⟩
        obtain ⟨z0, z1, z2, z3⟩ := row_quad t2
        obtain ⟨y0, y1, y2, y3⟩ := row_quad_free t2
        obtain ⟨u0, u1⟩ := row_one t3
        have hlt1 : w.heap.size + 1 < w4.heap.size := row_lt t2
        have hlt3 : w.heap.size + 1 + 1 < w4.heap.size := row_lt t3
        have t3' := row_but t3 (but_four (g := w.heap.size + 1) (But.refl [w.heap.size + 1] w4) (.inl (by simp)) (.int .i64 xe) (.slice hA hN hC) (.slice kA kN kC) (.slice tA tN tC)) (show w.heap.size + 1 + 1 ∉ [w.heap.size + 1] by simp <;> omega)
        have HSX := qh (row_but (stored_four t2 (.int .i64 xe) (.slice hA hN hC) (.slice kA kN kC) (.slice tA tN tC)) ((But.refl [w.heap.size + 1 + 1] _).setCell (p := ⟨w.heap.size + 1 + 1, 0, none⟩) (.inl (by simp)) (.int .i64 0)) (show w.heap.size + 1 ∉ [w.heap.size + 1 + 1] by simp <;> omega))
        have HSE := qh (one_stored t3' (.int .i64 0))
        have HE : Hid (ARPost w O (.returned (.tuple #[.agg #[.int .i64 xe, .slice hA hN hC, .slice kA kN kC, .slice tA tN tC], .int .i64 0])) _) := qh (by
          rw [HO.out]
          exact ⟨(hA, hN, hC), (kA, kN, kC), (tA, tN, tC), rfl, (tx.four t2 (.int .i64 xe) (.slice hA hN hC) (.slice kA kN kC) (.slice tA tN tC)).one t3' (.int .i64 0), ((((t4.setCell (p := ⟨w.heap.size + 1, 0, none⟩) (by simp) (.int .i64 xe)).setCell (p := ⟨w.heap.size + 1, 1, none⟩) (by simp) (.slice hA hN hC)).setCell (p := ⟨w.heap.size + 1, 2, none⟩) (by simp) (.slice kA kN kC)).setCell (p := ⟨w.heap.size + 1, 3, none⟩) (by simp) (.slice tA tN tC)).setCell (p := ⟨w.heap.size + 1 + 1, 0, none⟩) (by simp; omega) (.int .i64 0)⟩)
        clear t1 t2 t3 t3' t4 tx
        go_wp2_with fail
        refine leaves_cons (f := 179) (args := #[.pointer (some ⟨w.heap.size + 1, 0, none⟩), .pointer (some ⟨w.heap.size + 1 + 1, 0, none⟩)]) (by simp) (by simp [go_sem]) ?_
        refine (catch_idle _ _ _).mono ?_
        rintro e u' w'' ⟨rfl, rfl, rfl⟩
        obtain ⟨s0, s1, s2, s3⟩ := row_quad HSX.out
        obtain ⟨k0, -⟩ := row_one HSE.out
        simp [Leaves, settle, results, Tryz.results176, go_sem, s0, s1, s2, s3, k0]
        exact HE.out
    · have e0 : ((n2 : Int) == 0) = false := by rw [beq_eq_false_iff_ne]; omega
      have HO : Hid (O = (An.zero, 2)) := qh (by rw [HO0.out, if_neg (by rintro ⟨g, _⟩; rw [g] at HRL; exact h0 HRL.out.symm)])
      clear h0
      go_wp2_with fail
      refine (need_no _).mono ?_
      rintro e w3 ⟨he, rfl⟩
      obtain rfl := he
      have HQ2 := qh p2.out
      have HQ3 := qh p3.out
      have HQ4 := qh p4.out
      go_wp2_with fail
      refine leaves_cons (f := 179) (args := #[.pointer (some ⟨w.heap.size + 1, 0, none⟩), .pointer (some ⟨w.heap.size + 1 + 1, 0, none⟩)]) (by simp) (by simp [go_sem]) ?_
      refine (catch_panicking (w.heap.size + 1) (w.heap.size + 1 + 1) _ _ [] _ HQ2.out HQ3.out (by omega)).mono ?_
      rintro e u' w'' ⟨rfl, rfl, rfl⟩
      have HSX := row_but (stored_four HQ2.out (.int .i64 0) (.slice none 0 0) (.slice none 0 0) (.slice none 0 0)) ((But.refl [w.heap.size + 1 + 1] _).setCell (p := ⟨w.heap.size + 1 + 1, 0, none⟩) (.inl (by simp)) (.int .i64 2)) (show w.heap.size + 1 ∉ [w.heap.size + 1 + 1] by simp <;> omega)
      have HSE := one_stored (row_but HQ3.out (but_four (g := w.heap.size + 1) (But.refl [w.heap.size + 1] _) (.inl (by simp)) (.int .i64 0) (.slice none 0 0) (.slice none 0 0) (.slice none 0 0)) (show w.heap.size + 1 + 1 ∉ [w.heap.size + 1] by simp <;> omega)) (.int .i64 2)
      obtain ⟨s0, s1, s2, s3⟩ := row_quad HSX
      obtain ⟨k0, -⟩ := row_one HSE
      have HFIN := caught_post (g := w.heap.size + 1) (k := w.heap.size + 1 + 1) HQ4.out (by omega) (by omega)
      rw [← HO.out] at HFIN
      clear HSX HSE
      simp [Leaves, settle, results, Tryz.results176, go_sem, s0, s1, s2, s3, k0]
      exact HFIN


set_option maxRecDepth 100000 in
set_option maxHeartbeats 1000000 in
theorem read7_any (a : Ask) (h k : Hd) (B : Option Addr) (n c : Nat) (b : List UInt8) (hn : b.length = n) (hnc : n ≤ c) (hcm : c ≤ maxLen) (w : World) (ha : AskIn w a h k) (hb : Lies u8v w B b) :
    Calls Tryz.prog 169 #[askV a h k, .slice B n c] w (ARPost w (An.read a b)) := by
  obtain ⟨code, addr, count, to, words, bits, and_, or_⟩ := a
  obtain ⟨hra, hrx, hb0, hlt1, hlt0⟩ := two_new7 w #[.int .i64 code, .int .i64 addr, .int .i64 count, .int .i64 to, .slice h.1 h.2.1 h.2.2, .slice k.1 k.2.1 k.2.2, u16v and_, u16v or_] #[.int .i64 0, .slice none 0 0, .slice none 0 0, .slice none 0 0] 40 46
  have HR := qh (right6_any _ h k _ (ha.below hb0))
  have HD := qh (fun V hV hk => read7i_any ⟨code, addr, count, to, words, bits, and_, or_⟩ h k B n c b hn hnc hcm V ((ha.below hb0).below hV) hk ((hb.below hb0 (zq _)).below hV (zq _)))
  rw [askV_eq] at HR HD
  rw [askV_eq]
  obtain ⟨O, hO⟩ : ∃ O, An.read ⟨code, addr, count, to, words, bits, and_, or_⟩ b = O := ⟨_, rfl⟩
  rw [hO]
  clear ha hb hn hnc hcm
  go_enter Tryz.func169, Tryz.ntmps169
  obtain ⟨r0, r1, r2, r3, r4, r5, r6, r7⟩ := row_eight hra
  cases hk : Ak.right ⟨code, addr, count, to, words, bits, and_, or_⟩ with
  | false =>
    have HO : Hid (O = (An.zero, 1)) := qh (by rw [← hO]; unfold An.read; rw [hk]; rfl)
    rw [hk] at HR
    clear HD hO hk
    go_wp2_with fail
    refine HR.out.mono ?_
    rintro e w2 ⟨rfl, hb2⟩
    have t2 := row_later hrx hb2
    obtain ⟨z0, z1, z2, z3⟩ := row_quad t2
    obtain ⟨y0, y1, y2, y3⟩ := row_quad_free t2
    have hlt1 : w.heap.size + 1 < w2.heap.size := row_lt t2
    have HS4 := qh (stored_four t2 (.int .i64 0) (.slice none 0 0) (.slice none 0 0) (.slice none 0 0))
    have HE : Hid (ARPost w O (.returned (.tuple #[ansV An.zero (none, 0, 0) (none, 0, 0) (none, 0, 0), .int .i64 1])) _) := qh (by rw [HO.out]; exact ⟨(none, 0, 0), (none, 0, 0), (none, 0, 0), rfl, (AnsIn.zero w2).four t2 (.int .i64 0) (.slice none 0 0) (.slice none 0 0) (.slice none 0 0), (but_four (But.of_below (hb0.trans (hb2.mono hb0.size)) (zq _) []) (.inr (by omega)) (.int .i64 0) (.slice none 0 0) (.slice none 0 0) (.slice none 0 0)).below (by simp) (zq _)⟩)
    clear t2
    go_wp2_with fail
    obtain ⟨s0, s1, s2, s3⟩ := row_quad HS4.out
    refine bodyPost_ret_by (v := .tuple #[ansV An.zero (none, 0, 0) (none, 0, 0) (none, 0, 0), .int .i64 1]) (by simp [ansV, An.zero, results, Tryz.f169, go_sem, s0, s1, s2, s3]) rfl ?_
    exact HE.out
  | true =>
    rw [← An.readR_eq hk] at hO
    rw [hk] at HR
    have HD2 := qh (fun V hV => HD.out V hV hk)
    rw [hO] at HD2
    clear HD hO hk
    go_wp2_with fail
    refine HR.out.mono ?_
    rintro e w2 ⟨rfl, hb2⟩
    obtain ⟨r0, r1, r2, r3, r4, r5, r6, r7⟩ := row_eight (row_later hra hb2)
    have hlt0 : w.heap.size < w2.heap.size := row_lt (row_later hra hb2)
    go_wp2_with fail
    refine (HD2.out _ hb2).mono ?_
    rintro e w3 ⟨⟨hA, hN, hC⟩, ⟨kA, kN, kC⟩, ⟨tA, tN, tC⟩, rfl, hx3, hb3⟩
    have hb23 := hb2.trans (hb3.mono hb2.size)
    obtain ⟨⟨xe, xb, xw, xt⟩, i⟩ := O
    rw [ansV_eq]
    dsimp only
    dsimp only at hx3
    have t2 := row_later hrx hb23
    obtain ⟨z0, z1, z2, z3⟩ := row_quad t2
    obtain ⟨y0, y1, y2, y3⟩ := row_quad_free t2
    have hlt1 : w.heap.size + 1 < w3.heap.size := row_lt t2
    have HS4 := qh (stored_four t2 (.int .i64 xe) (.slice hA hN hC) (.slice kA kN kC) (.slice tA tN tC))
    have HE : Hid (ARPost w (⟨xe, xb, xw, xt⟩, i) (.returned (.tuple #[ansV ⟨xe, xb, xw, xt⟩ (hA, hN, hC) (kA, kN, kC) (tA, tN, tC), .int .i64 ((i : Nat) : Int)])) _) := qh ⟨(hA, hN, hC), (kA, kN, kC), (tA, tN, tC), rfl, hx3.four t2 (.int .i64 xe) (.slice hA hN hC) (.slice kA kN kC) (.slice tA tN tC), (but_four (But.of_below (hb0.trans (hb23.mono hb0.size)) (zq _) []) (.inr (by omega)) (.int .i64 xe) (.slice hA hN hC) (.slice kA kN kC) (.slice tA tN tC)).below (by simp) (zq _)⟩
    clear t2 hx3
    go_wp2_with fail
    obtain ⟨s0, s1, s2, s3⟩ := row_quad HS4.out
    refine bodyPost_ret_by (v := .tuple #[ansV ⟨xe, xb, xw, xt⟩ (hA, hN, hC) (kA, kN, kC) (tA, tN, tC), .int .i64 ((i : Nat) : Int)]) (by simp [ansV, results, Tryz.f169, go_sem, s0, s1, s2, s3]) rfl ?_
    exact HE.out

end Go.Proofs.YtlgmjnjhdamknaaGreat
