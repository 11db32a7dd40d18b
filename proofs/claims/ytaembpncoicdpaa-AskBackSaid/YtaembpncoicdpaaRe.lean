
/-
  bytes.HasPrefix, bytes.CutPrefix; the landed ask: the request that bytes tell by a layout.
-/
import Derived.Test.YtaembpncoicdpaaLa
namespace Go.Proofs.Ytaembpncoicdpaa
open Go.RowKit Go.Shelf

theorem isPrefix_take (p b : List UInt8) (_h : p.length ≤ b.length) : p.isPrefixOf b = (b.take p.length == p) := by
  rw [Bool.eq_iff_iff, List.isPrefixOf_iff_prefix, List.prefix_iff_eq_take, beq_iff_eq]
  exact ⟨fun h => h.symm, fun h => h.symm⟩
theorem isPrefix_short (p b : List UInt8) (h : b.length < p.length) : p.isPrefixOf b = false := by
  rw [Bool.eq_false_iff]
  intro h1
  have := (List.isPrefixOf_iff_prefix.1 h1).length_le
  omega

set_option maxRecDepth 100000 in
set_option maxHeartbeats 400000 in
theorem hasPrefix_any (A B : Option Addr) (n c m d : Nat) (b p : List UInt8) (hn : b.length = n) (hm : p.length = m) (hnc : n ≤ c) (w : World) (h1 : Lies u8v w A b) (h2 : Lies u8v w B p) :
    Calls Try.prog 79 #[.slice A n c, .slice B m d] w fun e w' => e = .returned (.bool (p.isPrefixOf b)) ∧ w' = w := by
  by_cases h : m ≤ n
  · have i1 : (n : Int) ≥ (m : Int) := by omega
    have i2 : (m : Int) ≤ (n : Int) := by omega
    have i3 : (m : Int) ≤ (c : Int) := by omega
    have HE := Lib.hid (bequal_any A B m m c d (b.take m) p (by rw [List.length_take]; omega) hm w (h1.take m) h2)
    have HP : Hid (p.isPrefixOf b = (b.take m == p)) := Lib.hid (by rw [isPrefix_take p b (by omega), hm])
    clear hn hm h1 h2
    go_enter Try.func79, Try.ntmps79
    go_wp2_with fail
    refine HE.out.mono ?_
    rintro e w' ⟨rfl, rfl⟩
    go_wp2_with fail
    go_ret
    exact ⟨by rw [HP.out]; rfl, rfl⟩
  · have i1 : ¬ ((n : Int) ≥ (m : Int)) := by omega
    have i2 : (n : Int) < (m : Int) := by omega
    have HP : Hid (p.isPrefixOf b = false) := Lib.hid (isPrefix_short p b (by omega))
    clear hn hm h1 h2
    go_enter Try.func79, Try.ntmps79
    go_wp2_with fail
    go_ret
    exact ⟨by rw [HP.out]; rfl, rfl⟩

/-- What CutPrefix leaves. -/
def CutPre (w : World) (A : Option Addr) (n c m : Nat) (b : List UInt8) (is : Bool) (e : Ending) (w' : World) : Prop := w' = w ∧
  ((is = false ∧ e = .returned (.tuple #[.slice A n c, .bool false])) ∨ (is = true ∧ m ≤ n ∧ ∃ X, e = .returned (.tuple #[.slice X (n - m) (c - m), .bool true]) ∧ ∀ W, Lies u8v W A b → Lies u8v W X (b.drop m)))
set_option maxRecDepth 100000 in
set_option maxHeartbeats 400000 in
theorem cutPrefix_any (A B : Option Addr) (n c m d : Nat) (b p : List UInt8) (hn : b.length = n) (hm : p.length = m) (hnc : n ≤ c) (w : World) (h1 : Lies u8v w A b) (h2 : Lies u8v w B p) :
    Calls Try.prog 51 #[.slice A n c, .slice B m d] w (CutPre w A n c m b (p.isPrefixOf b)) := by
  have HE := Lib.hid (hasPrefix_any A B n c m d b p hn hm hnc w h1 h2)
  cases hp : p.isPrefixOf b with
  | false =>
    rw [hp] at HE
    clear hp
    go_enter Try.func51, Try.ntmps51
    go_wp2_with fail
    refine HE.out.mono ?_
    rintro e w' ⟨rfl, rfl⟩
    go_wp2_with fail
    go_ret2
    exact ⟨rfl, .inl ⟨rfl, rfl⟩⟩
  | true =>
    have hle : m ≤ n := by have := (List.isPrefixOf_iff_prefix.1 hp).length_le; omega
    rw [hp] at HE
    obtain ⟨X, hX, hXL⟩ := slice_off (f := u8v) A n c m b hn hle hnc
    have HX := Lib.hid hXL
    have HLE := Lib.hid hle
    have i2 : (m : Int) ≤ (n : Int) := by omega
    have i3 : (m : Int) ≤ (c : Int) := by omega
    clear hp hXL hn hm h1 h2
    go_enter Try.func51, Try.ntmps51
    go_wp2_with fail
    refine HE.out.mono ?_
    rintro e w' ⟨rfl, rfl⟩
    go_wp2_with fail
    go_ret2
    exact ⟨rfl, .inr ⟨rfl, HLE.out, X, rfl, HX.out⟩⟩

/-- The request that a layout begins with. -/
def LK.first (L : LK) : Ask := { Ak.zero with code := ((L.begin_.getD 0 0).toNat : Nat) }
/-- A header's cells lie from a block on. -/
def NewH (B : Nat) (h : Option Addr × Nat × Nat) : Prop := ∀ b o s, h.1 = some ⟨b, o, s⟩ → 0 < h.2.1 → B ≤ b
/-- What read leaves. -/
def ReadAllPost (w : World) (L : LK) (b : List UInt8) (e : Ending) (w' : World) : Prop :=
  ∃ a h k ok, e = .returned (.tuple #[askV a h k, .bool ok]) ∧ AskIn w' a h k ∧ Below w.heap.size w w' ∧ NewH w.heap.size h ∧ NewH w.heap.size k ∧ (match L.readAll b with | none => ok = false | some a' => ok = true ∧ a = a')
theorem ReadAllPost.no {w w' : World} {L : LK} {b : List UInt8} {a : Ask} {h k : Option Addr × Nat × Nat} (hr : L.readAll b = none) (hi : AskIn w' a h k) (hb : Below w.heap.size w w') (n1 : NewH w.heap.size h) (n2 : NewH w.heap.size k) : ReadAllPost w L b (.returned (.tuple #[askV a h k, .bool false])) w' :=
  ⟨a, h, k, false, rfl, hi, hb, n1, n2, by rw [hr]⟩
theorem ReadAllPost.yes {w w' : World} {L : LK} {b : List UInt8} {a : Ask} {h k : Option Addr × Nat × Nat} (hr : L.readAll b = some a) (hi : AskIn w' a h k) (hb : Below w.heap.size w w') (n1 : NewH w.heap.size h) (n2 : NewH w.heap.size k) : ReadAllPost w L b (.returned (.tuple #[askV a h k, .bool true])) w' :=
  ⟨a, h, k, true, rfl, hi, hb, n1, n2, by rw [hr]; exact ⟨rfl, rfl⟩⟩
/-- What the loop holds: what is left lies behind A'. -/
def ReadInv (W2 : World) (L : LK) (b : List UInt8) (j : Nat) (A' : Option Addr) (n' c' : Nat) (ok : Bool) (a' : Ask) : Prop :=
  (ok = true ∧ ∃ r, L.begin_.isPrefixOf b = true ∧ LK.reads (L.parts.take j) (b.drop L.begin_.length) L.first = some (r, a') ∧ r.length = n' ∧ n' ≤ c' ∧ c' ≤ maxLen ∧ n' ≤ 10000 ∧ Lies u8v W2 A' r) ∨ (ok = false ∧ L.readAll b = none)
theorem PK.read_le {p : PK} {b r : List UInt8} {a a' : Ask} (h : p.read b a = some (r, a')) : r.length ≤ b.length := by
  unfold PK.read at h
  cases p with
  | num f sz lo hi =>
    dsimp only at h
    split at h
    · cases h
    · simp only [Option.some.injEq, Prod.mk.injEq] at h
      rw [← h.1, List.length_drop]; omega
  | mask f =>
    dsimp only at h
    split at h
    · cases h
    · simp only [Option.some.injEq, Prod.mk.injEq] at h
      rw [← h.1, List.length_drop]; omega
  | bit =>
    dsimp only at h
    split at h
    · cases h
    · split at h
      · simp only [Option.some.injEq, Prod.mk.injEq] at h
        rw [← h.1, List.length_drop]; omega
      · split at h
        · simp only [Option.some.injEq, Prod.mk.injEq] at h
          rw [← h.1, List.length_drop]; omega
        · cases h
  | word =>
    dsimp only at h
    split at h
    · cases h
    · simp only [Option.some.injEq, Prod.mk.injEq] at h
      rw [← h.1, List.length_drop]; omega
  | bits m =>
    dsimp only at h
    split at h
    · cases h
    · split at h
      · cases h
      · split at h
        · cases h
        · split at h
          · simp only [Option.some.injEq, Prod.mk.injEq] at h
            rw [← h.1, List.length_drop, List.length_drop, List.length_drop]; omega
          · cases h
  | words m =>
    dsimp only at h
    split at h
    · cases h
    · split at h
      · cases h
      · split at h
        · cases h
        · split at h
          · simp only [Option.some.injEq, Prod.mk.injEq] at h
            rw [← h.1, List.length_drop, List.length_drop, List.length_drop]; omega
          · cases h
theorem LK.readAll_none {L : LK} {b : List UInt8} (j : Nat) (h : LK.reads (L.parts.take j) (b.drop L.begin_.length) L.first = none) : L.readAll b = none := by
  unfold LK.readAll
  split
  · have := LK.reads_none L.parts (b.drop L.begin_.length) L.first j h
    unfold LK.first at this
    rw [this]
  · rfl
theorem LK.readAll_pre {L : LK} {b : List UInt8} (h : L.begin_.isPrefixOf b = false) : L.readAll b = none := by
  unfold LK.readAll
  rw [h]
  rfl
/-- A round that reads. -/
theorem ReadInv.step {W2 : World} {L : LK} {b : List UInt8} {j : Nat} {a' : Ask} {r : List UInt8} (hj : j < L.parts.length) (hp : L.begin_.isPrefixOf b = true) (hr : LK.reads (L.parts.take j) (b.drop L.begin_.length) L.first = some (r, a')) (hn : r.length ≤ 10000)
    {A2 : Option Addr} {n2 c2 : Nat} {ok2 : Bool} {a2 : Ask} (h : match (L.parts[j]).read r a' with | none => ok2 = false | some (r2, a3) => ok2 = true ∧ a2 = a3 ∧ r2.length = n2 ∧ n2 ≤ c2 ∧ c2 ≤ maxLen ∧ Lies u8v W2 A2 r2) : ReadInv W2 L b (j + 1) A2 n2 c2 ok2 a2 := by
  have ht := LK.reads_take L.parts (b.drop L.begin_.length) L.first j hj
  rw [hr] at ht
  dsimp only at ht
  cases hx : (L.parts[j]).read r a' with
  | none =>
    rw [hx] at h ht
    exact .inr ⟨h, LK.readAll_none (j + 1) ht⟩
  | some x =>
    obtain ⟨r2, a3⟩ := x
    rw [hx] at h ht
    obtain ⟨h1, h2, h3, h4, h5, h6⟩ := h
    have := PK.read_le hx
    exact .inl ⟨h1, r2, hp, by rw [ht, h2], h3, h4, h5, by omega, h6⟩
/-- Behind the last round. -/
theorem ReadInv.all {L : LK} {b : List UInt8} {r : List UInt8} {a' : Ask} (hp : L.begin_.isPrefixOf b = true) (hr : LK.reads L.parts (b.drop L.begin_.length) L.first = some (r, a')) : L.readAll b = if r.length = 0 then some a' else none := by
  unfold LK.readAll
  unfold LK.first at hr
  rw [hp, hr]
  cases r with
  | nil => rfl
  | cons x r => rfl

set_option maxRecDepth 100000 in
set_option maxHeartbeats 2000000 in
theorem read6_any (lo : Nat) (w0 W : World) (L : LK) (hps : L.parts.length ≤ 4) (hbg : 0 < L.begin_.length) (v : Value) (hL : LayIn lo w0 L v) (hW : Below w0.heap.size w0 W) (A : Option Addr) (n c : Nat) (b : List UInt8) (hn : b.length = n) (hnc : n ≤ c) (hcm : c ≤ maxLen) (hm : n ≤ 10000) (hb : Lies u8v W A b) :
    Calls Try.prog 18 #[v, .slice A n c] W (ReadAllPost W L b) := by
  obtain ⟨B, nb, cb, bb, m, g, pvs, rfl, h1, h2, h3, h4, h5, h6, h7, h8, h9, h10⟩ := hL.since (Since.of_below hW)
  have hpl := h10.length
  have hbA : Below W.heap.size W ((W.alloc (.cells #[.slice B nb cb, .slice (some ⟨bb, 0, none⟩) m m, .func (.func g) #[] #[]] 44)).alloc (.cells #[.int .i64 0, .int .i64 0, .int .i64 0, .int .i64 0, .slice none 0 0, .slice none 0 0, .int .u16 0, .int .u16 0] 26)) := ((Below.refl _ W).alloc (Nat.le_refl _) _).alloc (by simp) _
  have hrl := row_at W #[.slice B nb cb, .slice (some ⟨bb, 0, none⟩) m m, .func (.func g) #[] #[]] 44 W.heap.size rfl
  have hrl := old_at hrl (.cells #[.int .i64 0, .int .i64 0, .int .i64 0, .int .i64 0, .slice none 0 0, .slice none 0 0, .int .u16 0, .int .u16 0] 26)
  have hrr := row_at (W.alloc (.cells #[.slice B nb cb, .slice (some ⟨bb, 0, none⟩) m m, .func (.func g) #[] #[]] 44)) #[.int .i64 0, .int .i64 0, .int .i64 0, .int .i64 0, .slice none 0 0, .slice none 0 0, .int .u16 0, .int .u16 0] 26 (W.heap.size + 1) (by simp)
  have hsz : ((W.alloc (.cells #[.slice B nb cb, .slice (some ⟨bb, 0, none⟩) m m, .func (.func g) #[] #[]] 44)).alloc (.cells #[.int .i64 0, .int .i64 0, .int .i64 0, .int .i64 0, .slice none 0 0, .slice none 0 0, .int .u16 0, .int .u16 0] 26)).heap.size = W.heap.size + 1 + 1 := by simp
  obtain ⟨ob, oo, rfl, hblt, hbc⟩ := h5.at_ hbg
  have hb0 : (L.begin_.getD 0 0) = L.begin_[0] := by rw [List.getD_eq_getElem?_getD, List.getElem?_eq_getElem hbg, Option.getD_some]
  have hbc0 := hbc 0 hbg
  rw [Nat.add_zero, ← hb0] at hbc0
  generalize hW2 : ((W.alloc (.cells #[.slice (some ⟨ob, oo, none⟩) nb cb, .slice (some ⟨bb, 0, none⟩) m m, .func (.func g) #[] #[]] 44)).alloc (.cells #[.int .i64 0, .int .i64 0, .int .i64 0, .int .i64 0, .slice none 0 0, .slice none 0 0, .int .u16 0, .int .u16 0] 26)) = W2 at *
  have hr8 := row_later h8 hbA
  have hpa := h10.since (Since.of_below hbA)
  have hH : Hid (W2.heap.size = W.heap.size + 1 + 1) := Lib.hid hsz
  have hxb := (L.begin_.getD 0 0).toNat_lt
  have hFI : Hid (L.first = { Ak.zero with code := ((L.begin_.getD 0 0).toNat : Nat) }) := Lib.hid rfl
  have hbx : W2.cell? ⟨ob, oo, none⟩ = some (.int .u8 ((L.begin_.getD 0 0).toNat : Int)) := (hbA.cell (p := ⟨ob, oo, none⟩) hblt).trans hbc0
  generalize (L.begin_.getD 0 0).toNat = x0 at *
  have hbelow3 : Below W2.heap.size W2 (W2.alloc (.cells #[.int .i64 (x0 : Int), .int .i64 0, .int .i64 0, .int .i64 0, .slice none 0 0, .slice none 0 0, .int .u16 0, .int .u16 0] 26)) := (Below.refl _ _).alloc (Nat.le_refl _) _
  have hb2 := hb.below hbA (Nat.le_refl _)
  have hbg2 := h5.below hbA (Nat.le_refl _)
  have HCU := Lib.hid (cutPrefix_any A (some ⟨ob, oo, none⟩) n c nb cb b L.begin_ hn h1 hnc (W2.alloc (.cells #[.int .i64 (x0 : Int), .int .i64 0, .int .i64 0, .int .i64 0, .slice none 0 0, .slice none 0 0, .int .u16 0, .int .u16 0] 26)) (hb2.alloc _) (hbg2.alloc _))
  have hx0 : AskAt (W2.alloc (.cells #[.int .i64 (x0 : Int), .int .i64 0, .int .i64 0, .int .i64 0, .slice none 0 0, .slice none 0 0, .int .u16 0, .int .u16 0] 26)) (W.heap.size + 1 + 1) (fun b => b ≤ W.heap.size + 1 + 1) L.first (none, 0, 0) (none, 0, 0) := by
    rw [hFI.out]
    exact ⟨row_at W2 _ _ _ hsz, ⟨rfl, Nat.le_refl _, Nat.zero_le _, Lies.nil _ _, rfl, Nat.le_refl _, Nat.zero_le _, Lies.nil _ _⟩, Nat.le_refl _, fun b hs => by have hs' : b ≤ W.heap.size + 1 + 1 := hs; simp only [World.size_alloc]; omega, fun b o s e => (by cases e), fun b o s e => (by cases e)⟩
  have hiw : IntKind.i64.wrap (x0 : Int) = (x0 : Int) := by rw [IntKind.wrap_i64]; omega
  have hnb : (0 : Int) < (nb : Int) := by omega
  have hnb2 : 0 < nb := by omega
  have HM := Lib.hid h2
  have HPL := Lib.hid hpl
  have hm4 : m ≤ 4 := by omega
  have HZ := Lib.hid hbA.size
  have HB2 := Lib.hid hb2
  have HLB := Lib.hid h1
  have hob2 : ob < W2.heap.size := World.block_lt_of_cell? _ _ hbx
  have hl0 : W.heap.size < W2.heap.size := row_lt hrl
  obtain ⟨q0, q1, q2, _⟩ := row_tri hrl
  have HNL := Lib.hid hn
  clear h8 h10 h6 h7 h3 h4 h1 hL hps h2 hpl hb hb2 hbg2 hbc hbc0 hb0 hbg h5 hn hblt
  go_enter Try.func18, Try.ntmps18
  go_wp2_with fail
  clear hW2 hsz
  refine HCU.out.mono ?_
  rintro e w3 ⟨rfl, hcut⟩
  have hinv : ∃ A0 n0 c0 ok0, e = .returned (.tuple #[.slice A0 n0 c0, .bool ok0]) ∧ ReadInv W2 L b 0 A0 n0 c0 ok0 L.first := by
    rcases hcut with ⟨p1, rfl⟩ | ⟨p1, p2, X, rfl, p3⟩
    · exact ⟨_, _, _, _, rfl, .inr ⟨rfl, LK.readAll_pre p1⟩⟩
    · refine ⟨_, _, _, _, rfl, .inl ⟨rfl, b.drop L.begin_.length, p1, rfl, ?_, by omega, by omega, by omega, ?_⟩⟩
      · rw [List.length_drop, HNL.out, HLB.out]
      · rw [HLB.out]; exact p3 W2 HB2.out
  obtain ⟨A0, n0, c0, ok0, rfl, hinv⟩ := hinv
  have HI0 := Lib.hid hinv
  clear hcut hinv HCU
  go_wp2_with fail
  go_loopw [7, 8, 10, 27] (fun rv iv _ i wr => ∃ j : Nat, j ≤ m ∧ i = .int .i64 j ∧ ∃ A' n' c' ok a' h' k', rv = .slice A' n' c' ∧ iv = .bool ok ∧ AskAt wr (W.heap.size + 1 + 1) (fun b => b ≤ W.heap.size + 1 + 1) a' h' k' ∧ Hid (ReadInv W2 L b j A' n' c' ok a') ∧ Below W2.heap.size W2 wr) (fun _ _ _ i _ => m - (intOf i).toNat)
  case atStart => exact ⟨0, Nat.zero_le _, rfl, A0, n0, c0, ok0, _, _, _, rfl, rfl, hx0, HI0, hbelow3⟩
  case round =>
    clear hx0 hbelow3 HI0 q0 q1 q2 hbx hiw hnb hob2 hl0
    obtain ⟨j, hj, rfl, A', n', c', ok, a', h', k', rfl, rfl, hx, HI, hbe⟩ := hrel
    have z2 := hbe.size
    have hrw := row_later hrr hbe
    have hl1 : W.heap.size + 1 < wr.heap.size := row_lt hrw
    by_cases hjm : j < m
    · have hj1 : j < L.parts.length := by have := HM.out; omega
      have hj2 : j < pvs.length := by have := HPL.out; omega
      have P := hpa.get j hj1 hj2 W2 (Since.refl _ _)
      have hrow := row_later hr8 hbe
      have hcl : ∀ i, i < 4 → wr.cell? ⟨bb, 4 * j + i, none⟩ = pvs[j].cells[i]? := fun i hi => by
        rw [cell_of_row _ _ _ _ _ _ hrow, ← PV.cells_get pvs j i hj2 hi]
        simp
      have HST := Lib.hid (fun r (hp : L.begin_.isPrefixOf b = true) (hr : LK.reads (L.parts.take j) (b.drop L.begin_.length) L.first = some (r, a')) (hn : r.length ≤ 10000) A2 n2 c2 ok2 a2 => ReadInv.step (W2 := W2) (A2 := A2) (n2 := n2) (c2 := c2) (ok2 := ok2) (a2 := a2) hj1 hp hr hn)
      generalize L.parts[j] = p at *
      generalize pvs[j] = v at *
      obtain ⟨g1, g2, g3, g4, l1, l2, l3, l4⟩ := v
      have e0 : wr.cell? ⟨bb, j * 4, none⟩ = some (.func (.func g1) #[] l1) := by have := hcl 0 (by omega); rw [Nat.mul_comm] at this; exact this
      have e1 : wr.cell? ⟨bb, j * 4 + 1, none⟩ = some (.func (.func g2) #[] l2) := by have := hcl 1 (by omega); rw [Nat.mul_comm] at this; exact this
      have e2 : wr.cell? ⟨bb, j * 4 + 2, none⟩ = some (.func (.func g3) #[] l3) := by have := hcl 2 (by omega); rw [Nat.mul_comm] at this; exact this
      have e3 : wr.cell? ⟨bb, j * 4 + 3, none⟩ = some (.func (.func g4) #[] l4) := by have := hcl 3 (by omega); rw [Nat.mul_comm] at this; exact this
      have eg3 := P.e3
      unfold Enters at eg3
      dsimp only at eg3
      have HC3 := Lib.hid P.c3
      dsimp only at HC3
      have i1 : (j : Int) < (m : Int) := by omega
      have hbp : Below W2.heap.size W2 (wr.alloc (.cells #[.func (.func g1) #[] l1, .func (.func g2) #[] l2, .func (.func g3) #[] l3, .func (.func g4) #[] l4] 57)) := hbe.alloc z2 _
      have hxp := hx.below ((Below.refl _ wr).alloc (Nat.le_refl _) (.cells #[.func (.func g1) #[] l1, .func (.func g2) #[] l2, .func (.func g3) #[] l3, .func (.func g4) #[] l4] 57))
      have hrp := old_at hrw (.cells #[.func (.func g1) #[] l1, .func (.func g2) #[] l2, .func (.func g3) #[] l3, .func (.func g4) #[] l4] 57)
      clear hcl hrow P hx
      cases ok with
      | false =>
        have HNO : Hid (L.readAll b = none) := Lib.hid (by
          rcases HI.out with ⟨h, _⟩ | ⟨_, h⟩
          · cases h
          · exact h)
        obtain ⟨y0, y1, y2, y3, y4, y5, y6, y7⟩ := row_eight hrw
        obtain ⟨f0, f1, f2, f3, f4, f5, f6, f7⟩ := row_eight_free hrw
        have HS8 := Lib.hid (old_at (stored_eight hrw (.int .i64 0) (.int .i64 0) (.int .i64 0) (.int .i64 0) (.slice none 0 0) (.slice none 0 0) (.int .u16 0) (.int .u16 0)) (.cells #[.func (.func g1) #[] l1, .func (.func g2) #[] l2, .func (.func g3) #[] l3, .func (.func g4) #[] l4] 57))
        have hb8 := below_eight (hbA.trans (hbe.mono HZ.out)) (show W.heap.size ≤ W.heap.size + 1 by omega) (.int .i64 0) (.int .i64 0) (.int .i64 0) (.int .i64 0) (.slice none 0 0) (.slice none 0 0) (.int .u16 0) (.int .u16 0)
        have HBE := Lib.hid (hb8.alloc hb8.size (.cells #[.func (.func g1) #[] l1, .func (.func g2) #[] l2, .func (.func g3) #[] l3, .func (.func g4) #[] l4] 57))
        clear hb8
        clear hrp hxp hbp
        go_wp2_with fail
        obtain ⟨s0, s1, s2, s3, s4, s5, s6, s7⟩ := row_eight HS8.out
        refine bodyPost_ret_by (v := .tuple #[askV Ak.zero (none, 0, 0) (none, 0, 0), .bool false]) (by simp [askV, Ak.zero, results, Try.f18, go_sem, s0, s1, s2, s3, s4, s5, s6, s7]) rfl ?_
        exact ReadAllPost.no HNO.out (AskIn.zero _) HBE.out (fun b o s e => by cases e) (fun b o s e => by cases e)
      | true =>
        have HIN : Hid (∃ r, L.begin_.isPrefixOf b = true ∧ LK.reads (L.parts.take j) (b.drop L.begin_.length) L.first = some (r, a') ∧ r.length = n' ∧ n' ≤ c' ∧ c' ≤ maxLen ∧ n' ≤ 10000 ∧ Lies u8v W2 A' r) := Lib.hid (by
          rcases HI.out with ⟨_, h⟩ | ⟨h, _⟩
          · exact h
          · cases h)
        obtain ⟨r, p1, p2, p3, p4, p5, p6, p7⟩ := HIN.out
        have HCC := Lib.hid (HC3.out _ hbp A' n' c' r p3 p4 p5 p6 p7 (W.heap.size + 1 + 1) _ a' h' k' (by rw [hH.out]; exact Nat.le_refl _) hxp)
        have HSTP := Lib.hid (HST.out r p1 p2 (by omega))
        clear HIN p1 p2 p3 p4 p5 p6 p7 HI HST HC3 hrp
        go_wp2_with (first | (go_at_fn g3; refine HCC.out.mono ?_; rintro e w4 ⟨A2, n2, c2, ok2, a2, h2', k2', rfl, hx2, hb4, hres⟩) | fail)
        have hb5 := hbp.trans (hb4.below (fun k hk => by rw [List.mem_singleton.1 hk, hH.out]; exact Nat.le_refl _) (by have := hbp.size; exact this))
        go_roundw
        case rel => exact ⟨j + 1, by omega, by go_num, A2, n2, c2, ok2, a2, h2', k2', rfl, rfl, hx2, Lib.hid (HSTP.out A2 n2 c2 ok2 a2 hres), hb5⟩
        case measure => simp [intOf]; omega
    · obtain rfl : j = m := by omega
      have HTK : Hid (L.parts.take j = L.parts) := Lib.hid (by rw [← HM.out, List.take_length])
      obtain ⟨r0, r1, r2, r3, r4, r5, r6, r7⟩ := row_eight hx.row
      obtain ⟨y0, y1, y2, y3, y4, y5, y6, y7⟩ := row_eight hrw
      obtain ⟨f0, f1, f2, f3, f4, f5, f6, f7⟩ := row_eight_free hrw
      have HS8 := Lib.hid (stored_eight hrw (.int .i64 a'.code) (.int .i64 a'.addr) (.int .i64 a'.count) (.int .i64 a'.to) (.slice h'.1 h'.2.1 h'.2.2) (.slice k'.1 k'.2.1 k'.2.2) (u16v a'.and_) (u16v a'.or_))
      have HBE := Lib.hid (below_eight (hbA.trans (hbe.mono HZ.out)) (show W.heap.size ≤ W.heap.size + 1 by omega) (.int .i64 a'.code) (.int .i64 a'.addr) (.int .i64 a'.count) (.int .i64 a'.to) (.slice h'.1 h'.2.1 h'.2.2) (.slice k'.1 k'.2.1 k'.2.2) (u16v a'.and_) (u16v a'.or_))
      have HIN := Lib.hid (hx.ins.eight (g := W.heap.size + 1) (fun b o s e h0 => by have h1 : ¬ b ≤ W.heap.size + 1 + 1 := hx.fh b o s e h0; omega) (fun b o s e h0 => by have h1 : ¬ b ≤ W.heap.size + 1 + 1 := hx.fk b o s e h0; omega) (.int .i64 a'.code) (.int .i64 a'.addr) (.int .i64 a'.count) (.int .i64 a'.to) (.slice h'.1 h'.2.1 h'.2.2) (.slice k'.1 k'.2.1 k'.2.2) (u16v a'.and_) (u16v a'.or_))
      have HN1 : Hid (NewH W.heap.size h') := Lib.hid (fun b o s e h0 => by have h1 : ¬ b ≤ W.heap.size + 1 + 1 := hx.fh b o s e h0; omega)
      have HN2 : Hid (NewH W.heap.size k') := Lib.hid (fun b o s e h0 => by have h1 : ¬ b ≤ W.heap.size + 1 + 1 := hx.fk b o s e h0; omega)
      clear hx hrw hbe
      cases ok with
      | false =>
        have HNO : Hid (L.readAll b = none) := Lib.hid (by
          rcases HI.out with ⟨h, _⟩ | ⟨_, h⟩
          · cases h
          · exact h)
        go_wp2_with fail
        obtain ⟨s0, s1, s2, s3, s4, s5, s6, s7⟩ := row_eight HS8.out
        refine bodyPost_ret_by (v := .tuple #[askV a' h' k', .bool false]) (by simp [askV, results, Try.f18, go_sem, s0, s1, s2, s3, s4, s5, s6, s7]) rfl ?_
        exact ReadAllPost.no HNO.out HIN.out HBE.out HN1.out HN2.out
      | true =>
        have HALL : Hid (L.readAll b = if n' = 0 then some a' else none) := Lib.hid (by
          rcases HI.out with ⟨_, r, p1, p2, p3, _⟩ | ⟨h, _⟩
          · rw [HTK.out] at p2
            rw [ReadInv.all p1 p2, p3]
          · cases h)
        by_cases h0 : n' = 0
        · rw [if_pos h0] at HALL
          have h0' : ((n' : Int) == 0) = true := by rw [h0]; rfl
          clear h0
          go_wp2_with fail
          obtain ⟨s0, s1, s2, s3, s4, s5, s6, s7⟩ := row_eight HS8.out
          refine bodyPost_ret_by (v := .tuple #[askV a' h' k', .bool true]) (by simp [askV, results, Try.f18, go_sem, s0, s1, s2, s3, s4, s5, s6, s7]) rfl ?_
          exact ReadAllPost.yes HALL.out HIN.out HBE.out HN1.out HN2.out
        · rw [if_neg h0] at HALL
          have h0' : ((n' : Int) == 0) = false := by rw [beq_eq_false_iff_ne]; omega
          clear h0
          go_wp2_with fail
          obtain ⟨s0, s1, s2, s3, s4, s5, s6, s7⟩ := row_eight HS8.out
          refine bodyPost_ret_by (v := .tuple #[askV a' h' k', .bool false]) (by simp [askV, results, Try.f18, go_sem, s0, s1, s2, s3, s4, s5, s6, s7]) rfl ?_
          exact ReadAllPost.no HALL.out HIN.out HBE.out HN1.out HN2.out
end Go.Proofs.Ytaembpncoicdpaa
