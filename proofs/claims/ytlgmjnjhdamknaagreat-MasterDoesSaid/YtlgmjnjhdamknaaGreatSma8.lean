
/- A part of the proof of the law MasterDoes. -/
import Derived.Test.YtlgmjnjhdamknaaGreatMem
import Derived.Test.YtlgmjnjhdamknaaGreatAwake8
import Derived.Deep.Cut
import Derived.Deep.CutRange
import Derived.Deep.DeepCutAuto
import Derived.Test.YtlgmjnjhdamknaaGreatAn
import Derived.Test.YtlgmjnjhdamknaaGreatRm
import Derived.Test.YtlgmjnjhdamknaaGreatRs2
import Derived.Test.YtlgmjnjhdamknaaGreatKp
import Derived.Test.YtlgmjnjhdamknaaGreatCm8
import Derived.Lib.MinMax
namespace Go.Proofs.YtlgmjnjhdamknaaGreat
open Go.RowKit

structure Act8 where
  kind : Int
  ask : Ask
  bs : List UInt8
structure ActAt (w : World) (b o : Nat) (x : Act8) (h k d : Hd) : Prop where
  c0 : w.cell? ⟨b, o, none⟩ = some (.int .i64 x.kind)
  c1 : w.cell? ⟨b, o + 1, none⟩ = some (.int .i64 x.ask.code)
  c2 : w.cell? ⟨b, o + 2, none⟩ = some (.int .i64 x.ask.addr)
  c3 : w.cell? ⟨b, o + 3, none⟩ = some (.int .i64 x.ask.count)
  c4 : w.cell? ⟨b, o + 4, none⟩ = some (.int .i64 x.ask.to)
  c5 : w.cell? ⟨b, o + 5, none⟩ = some (.slice h.1 h.2.1 h.2.2)
  c6 : w.cell? ⟨b, o + 6, none⟩ = some (.slice k.1 k.2.1 k.2.2)
  c7 : w.cell? ⟨b, o + 7, none⟩ = some (u16v x.ask.and_)
  c8 : w.cell? ⟨b, o + 8, none⟩ = some (u16v x.ask.or_)
  c9 : w.cell? ⟨b, o + 9, none⟩ = some (.slice d.1 d.2.1 d.2.2)
  ins : AskIn w x.ask h k
  bn : x.bs.length = d.2.1
  bc : d.2.1 ≤ d.2.2
  bm : d.2.2 ≤ maxLen
  bl : Lies u8v w d.1 x.bs
  hs : h.2.1 ≤ 140737488355328
  ks : k.2.1 ≤ 140737488355328
  ds : d.2.1 ≤ 140737488355328
def ActsAt (w : World) (b o : Nat) (l : List Act8) : Prop :=
  ∀ j (hj : j < l.length), ∃ h k d, ActAt w b (o + j * 10) l[j] h k d
theorem ActAt.below {w w' : World} {b o : Nat} {x : Act8} {h k d : Hd} (y : ActAt w b o x h k d) (hb : Below w.heap.size w w') : ActAt w' b o x h k d :=
  ⟨cell_later hb y.c0, cell_later hb y.c1, cell_later hb y.c2, cell_later hb y.c3, cell_later hb y.c4, cell_later hb y.c5, cell_later hb y.c6, cell_later hb y.c7, cell_later hb y.c8, cell_later hb y.c9, y.ins.below hb, y.bn, y.bc, y.bm, y.bl.below hb (zq _), y.hs, y.ks, y.ds⟩
theorem ActsAt.below {w w' : World} {b o : Nat} {l : List Act8} (h : ActsAt w b o l) (hb : Below w.heap.size w w') : ActsAt w' b o l := by
  intro j hj
  obtain ⟨h', k, d, y⟩ := h j hj
  exact ⟨h', k, d, y.below hb⟩

set_option maxRecDepth 100000 in
set_option maxHeartbeats 1000000 in
theorem small8_any (A : Option Addr) (n c : Nat) (l : List Act8) (hn : l.length = n) (hnb : n ≤ 140737488355328) (w : World) (h : 0 < n → ∃ b o, A = some ⟨b, o, none⟩ ∧ ActsAt w b o l) :
    Calls Tryz.prog 7 #[.slice A n c] w fun e w' => ∃ V k, e = .returned (.bool V) ∧ w' = w.drewN k ∧ (V = true → n ≤ 200 ∧ ∀ j (hj : j < l.length), l[j].bs.length ≤ 100000) := by
  have HH := qh h
  have HN := qh hn
  have n300 : (n : Int) < 9223372036854775807 := by omega
  clear h hn
  go_enter Tryz.func7, Tryz.ntmps7
  go_wp2_with fail
  go_loopw [3, 4] (fun s i wr => ∃ (j k m : Nat), j ≤ n ∧ s = .int .i64 k ∧ i = .int .i64 j ∧ k ≤ 800000000000000 ∧ (∀ p (hp : p < l.length), p < j → l[p].bs.length ≤ k) ∧ wr = w.drewN m) (fun _ i _ => n - (intOf i).toNat)
  case atStart => exact ⟨0, 0, 0, Nat.zero_le _, rfl, rfl, by omega, fun _ _ h => absurd h (by omega), rfl⟩
  case round =>
    obtain ⟨j, k, m, hj, rfl, rfl, hk, hall, rfl⟩ := hrel
    have HALL := qh hall
    clear hall
    by_cases hlt : j < n
    · have ilt : (j : Int) < (n : Int) := by omega
      by_cases hkl : (k : Int) < 100000
      · obtain ⟨b, o, eA, hacts⟩ := HH.out (by omega)
        have hjl : j < l.length := by have := HN.out; omega
        obtain ⟨⟨hA, hn, hc⟩, ⟨kA, kn, kc⟩, ⟨dA, dn, dc⟩, y⟩ := hacts j hjl
        subst eA
        have y5 : (w.drewN m).cell? ⟨b, o + j * 10 + 1 + 4, none⟩ = _ := y.c5
        have y6 : (w.drewN m).cell? ⟨b, o + j * 10 + 1 + 5, none⟩ = _ := y.c6
        have y9 : (w.drewN m).cell? ⟨b, o + j * 10 + 9, none⟩ = _ := y.c9
        have hs : hn ≤ 140737488355328 := y.hs
        have ks : kn ≤ 140737488355328 := y.ks
        have ds : dn ≤ 140737488355328 := y.ds
        have HD : Hid (l[j].bs.length = dn) := qh y.bn
        have hw1 : IntKind.i64.wrap ((k : Int) + (dn : Int)) = (k : Int) + (dn : Int) := by rw [IntKind.wrap_i64]; omega
        have hw2 : IntKind.i64.wrap ((k : Int) + (dn : Int) + (hn : Int)) = (k : Int) + (dn : Int) + (hn : Int) := by rw [IntKind.wrap_i64]; omega
        have hw3 : IntKind.i64.wrap ((k : Int) + (dn : Int) + (hn : Int) + (kn : Int)) = (k : Int) + (dn : Int) + (hn : Int) + (kn : Int) := by rw [IntKind.wrap_i64]; omega
        obtain ⟨W, hW⟩ : ∃ W, w.drewN m = W := ⟨_, rfl⟩
        rw [hW] at y5 y6 y9 ⊢
        have HW := qh hW
        clear hacts y hlt hW
        go_wp2_with fail
        go_region
        go_wp2_with fail
        go_roundw
        case rel =>
          refine ⟨j + 1, k + dn + hn + kn, m + 1, by omega, by go_num, by go_num, by omega, fun p hp h => ?_, ?_⟩
          · rcases Nat.lt_or_ge p j with h1 | h1
            · have := HALL.out p hp h1
              omega
            · obtain rfl : p = j := by omega
              have := HD.out
              omega
          · rw [← HW.out]
            first | rfl | exact World.drewN_succ _ _
        case measure => simp [intOf]; omega
      · have h1 : decide ((k : Int) < 100000) = false := by simp; omega
        have h2 : decide ((k : Int) < 10000) = false := by simp; omega
        clear hkl
        go_wp2_with fail
        go_ret
        exact ⟨_, _, rfl, rfl, fun h => by cases h⟩
    · obtain rfl : n = j := by omega
      by_cases hk1 : (k : Int) < 10000
      · by_cases hn2 : (n : Int) ≤ 200
        · have HK : Hid (k < 10000 ∧ n ≤ 200) := qh (by omega)
          go_wp2_with fail
          go_ret
          exact ⟨_, _, rfl, rfl, fun _ => ⟨HK.out.2, fun p hp => Nat.le_trans (HALL.out p hp (by have := HN.out; omega)) (by have := HK.out; omega)⟩⟩
        · have h2 : decide ((n : Int) ≤ 200) = false := by simp; omega
          clear hn2
          go_wp2_with fail
          go_ret
          exact ⟨_, _, rfl, rfl, fun h => by cases h⟩
      · have h2 : decide ((k : Int) < 10000) = false := by simp; omega
        clear hk1
        go_wp2_with fail
        go_ret
        exact ⟨_, _, rfl, rfl, fun h => by cases h⟩
end Go.Proofs.YtlgmjnjhdamknaaGreat

namespace Go.Proofs.YtlgmjnjhdamknaaGreat
open Go.ChangeShapes Go.WideShapes Go.ChangeAt Go.RowKit

def RAskB (w : World) (a : Ask) (cs : List Value) : Prop := ∃ h k : Option Addr × Nat × Nat, askV a h k = .agg cs.toArray ∧ AskIn w a h k ∧ AskNums a ∧ h.2.1 ≤ 140737488355328 ∧ k.2.1 ≤ 140737488355328
def RAct (w : World) (x : Act8) (cs : List Value) : Prop := ∃ h k d : Option Addr × Nat × Nat, cs = [.int .i64 x.kind, .int .i64 x.ask.code, .int .i64 x.ask.addr, .int .i64 x.ask.count, .int .i64 x.ask.to, .slice h.1 h.2.1 h.2.2, .slice k.1 k.2.1 k.2.2, u16v x.ask.and_, u16v x.ask.or_, .slice d.1 d.2.1 d.2.2] ∧ AskIn w x.ask h k ∧ x.bs.length = d.2.1 ∧ d.2.1 ≤ d.2.2 ∧ d.2.2 ≤ maxLen ∧ Lies u8v w d.1 x.bs ∧ h.2.1 ≤ 140737488355328 ∧ k.2.1 ≤ 140737488355328 ∧ d.2.1 ≤ 140737488355328
section
variable {P : Program} {H : Type} {enc : TypeId × Value → H} {w : World} {b : Nat} {sp : Nat → Bool} {hd : Bool} {t e ew eb : TypeId}
theorem open_askb {f0 f1 f2 f3 f4 f5 f6 f7 : Field} (hu : P.underlying t = some (.struct #[f0, f1, f2, f3, f4, f5, f6, f7])) (h0 : P.underlying f0.type = some (.int .i64)) (h1 : P.underlying f1.type = some (.int .i64)) (h2 : P.underlying f2.type = some (.int .i64)) (h3 : P.underlying f3.type = some (.int .i64)) (h4 : P.underlying f4.type = some (.slice ew)) (h5 : P.underlying f5.type = some (.slice eb)) (h6 : P.underlying f6.type = some (.int .u16)) (h7 : P.underlying f7.type = some (.int .u16)) (hew : P.underlying ew = some (.int .u16)) (heb : P.underlying eb = some .bool) (hcw : P.cellsOf ew = 1) (hcb : P.cellsOf eb = 1) (ho0 : f0.offset = 0) (hc0 : P.cellsOf f0.type = 1) (ho1 : f1.offset = 1) (hc1 : P.cellsOf f1.type = 1) (ho2 : f2.offset = 2) (hc2 : P.cellsOf f2.type = 1) (ho3 : f3.offset = 3) (hc3 : P.cellsOf f3.type = 1) (ho4 : f4.offset = 4) (hc4 : P.cellsOf f4.type = 1) (ho5 : f5.offset = 5) (hc5 : P.cellsOf f5.type = 1) (ho6 : f6.offset = 6) (hc6 : P.cellsOf f6.type = 1) (ho7 : f7.offset = 7) (hc7 : P.cellsOf f7.type = 1) (hck : P.cellsOf t = 8) (hbw : P.bytesOf ew = 2) (hbb : P.bytesOf eb = 1) : Opens enc P w b sp hd t (RAskB w) := by
  intro m cs y h hs
  obtain ⟨xs, k, rfl, hx, hl, hxl, hf⟩ := DataW.trod_struct hu h
  rw [hck] at hl
  obtain ⟨x0, x1, x2, x3, x4, x5, x6, x7, rfl⟩ : ∃ x0  x1  x2  x3  x4  x5  x6  x7, xs = [x0, x1, x2, x3, x4, x5, x6, x7] := by
    match xs, hxl with
    | [x0, x1, x2, x3, x4, x5, x6, x7], _ => exact ⟨x0, x1, x2, x3, x4, x5, x6, x7, rfl⟩
  have hs' : Small P t (.agg ([x0, x1, x2, x3, x4, x5, x6, x7].map (·.1))) := by rw [hx] at hs; exact hs
  match cs, hl with
  | [c0, c1, c2, c3, c4, c5, c6, c7], _ =>
    have g0 := hf 0 f0 rfl
    rw [ho0, hc0] at g0
    have g1 := hf 1 f1 rfl
    rw [ho1, hc1] at g1
    have g2 := hf 2 f2 rfl
    rw [ho2, hc2] at g2
    have g3 := hf 3 f3 rfl
    rw [ho3, hc3] at g3
    have g4 := hf 4 f4 rfl
    rw [ho4, hc4] at g4
    have g5 := hf 5 f5 rfl
    rw [ho5, hc5] at g5
    have g6 := hf 6 f6 rfl
    rw [ho6, hc6] at g6
    have g7 := hf 7 f7 rfl
    rw [ho7, hc7] at g7
    obtain ⟨z0, e0, l0, u0⟩ := open_i64 h0 _ _ _ g0 (small_part hu hs' (j := 0) rfl rfl)
    obtain ⟨z1, e1, l1, u1⟩ := open_i64 h1 _ _ _ g1 (small_part hu hs' (j := 1) rfl rfl)
    obtain ⟨z2, e2, l2, u2⟩ := open_i64 h2 _ _ _ g2 (small_part hu hs' (j := 2) rfl rfl)
    obtain ⟨z3, e3, l3, u3⟩ := open_i64 h3 _ _ _ g3 (small_part hu hs' (j := 3) rfl rfl)
    obtain ⟨z4, A4, n4, d4, e4, a4, b4, m4, y4, L4⟩ := open_slice h4 hcw (by omega) (open_u16 hew) _ _ _ g4 (small_part hu hs' (j := 4) rfl rfl)
    obtain ⟨z5, A5, n5, d5, e5, a5, b5, m5, y5, L5⟩ := open_slice h5 hcb (by omega) (open_bit heb) _ _ _ g5 (small_part hu hs' (j := 5) rfl rfl)
    obtain ⟨z6, e6⟩ := open_u16 h6 _ _ _ g6 (small_part hu hs' (j := 6) rfl rfl)
    obtain ⟨z7, e7⟩ := open_u16 h7 _ _ _ g7 (small_part hu hs' (j := 7) rfl rfl)
    simp at e0 e1 e2 e3 e4 e5 e6 e7
    subst e0 e1 e2 e3 e4 e5 e6 e7
    exact ⟨⟨z0, z1, z2, z3, z4, z5, z6, z7⟩, (A4, n4, d4), (A5, n5, d5), rfl, ⟨a4, b4, m4, L4.lies, a5, b5, m5, L5.lies⟩, ⟨l0, u0, l1, u1, l2, u2, l3, u3⟩, by rw [hbw] at y4; have := reachBytes_lt; show n4 ≤ _; omega, by rw [hbb] at y5; have := reachBytes_lt; show n5 ≤ _; omega⟩

theorem open_act {f0 f1 f2 : Field} (hu : P.underlying t = some (.struct #[f0, f1, f2])) (h0 : P.underlying f0.type = some (.int .i64)) (h1 : Opens enc P w b sp hd f1.type (RAskB w)) (h2 : P.underlying f2.type = some (.slice e)) (he : P.underlying e = some (.int .u8)) (hes : P.cellsOf e = 1) (heb : P.bytesOf e = 1)
    (ho0 : f0.offset = 0) (ho1 : f1.offset = 1) (ho2 : f2.offset = 9) (hc0 : P.cellsOf f0.type = 1) (hc1 : P.cellsOf f1.type = 8) (hc2 : P.cellsOf f2.type = 1) (hck : P.cellsOf t = 10) : Opens enc P w b sp hd t (RAct w) := by
  intro m cs y h hs
  obtain ⟨xs, n, rfl, hx, hl, hxl, hf⟩ := DataW.trod_struct hu h
  rw [hck] at hl
  obtain ⟨x0, x1, x2, rfl⟩ : ∃ x0 x1 x2, xs = [x0, x1, x2] := by
    match xs, hxl with
    | [x0, x1, x2], _ => exact ⟨x0, x1, x2, rfl⟩
  have hs' : Small P t (.agg ([x0, x1, x2].map (·.1))) := by rw [hx] at hs; exact hs
  match cs, hl with
  | [c0, c1, c2, c3, c4, c5, c6, c7, c8, c9], _ =>
    have g0 := hf 0 f0 rfl
    have g1 := hf 1 f1 rfl
    have g2 := hf 2 f2 rfl
    rw [ho0, hc0] at g0
    rw [ho1, hc1] at g1
    rw [ho2, hc2] at g2
    obtain ⟨z0, e0, -, -⟩ := open_i64 h0 _ _ _ g0 (small_part hu hs' (j := 0) rfl rfl)
    obtain ⟨a, h', k', e1, hin, -, q1, q2⟩ := h1 _ _ _ g1 (small_part hu hs' (j := 1) rfl rfl)
    obtain ⟨l2, A2, n2, d2, e2, a2, b2, m2, y2, L2⟩ := open_slice h2 hes (by omega) (open_u8 he) _ _ _ g2 (small_part hu hs' (j := 2) rfl rfl)
    rw [heb] at y2
    have hr := reachBytes_lt
    simp [askV] at e0 e1 e2
    obtain ⟨e10, e11, e12, e13, e14, e15, e16, e17⟩ := e1
    subst e0 e2 e10 e11 e12 e13 e14 e15 e16 e17
    exact ⟨⟨z0, a, l2⟩, h', k', (A2, n2, d2), rfl, hin, a2, b2, m2, L2.lies, q1, q2, by show n2 ≤ _; omega⟩
end
theorem acts_at {w : World} {A : Option Addr} {l : List Act8} (h : SlAt w (RAct w) 10 A l) : 0 < l.length → ∃ b o, A = some ⟨b, o, none⟩ ∧ ActsAt w b o l := by
  intro h0
  obtain ⟨b, off, cs, e, _⟩ := h 0 h0
  refine ⟨b, off, e, fun j hj => ?_⟩
  obtain ⟨b', off', cs', e', _, hc, h', k', d', rfl, h1, h2, h3, h4, h5, h6, h7, h8⟩ := h j hj
  rw [e] at e'
  cases e'
  exact ⟨h', k', d', hc 0 (by simp), hc 1 (by simp), hc 2 (by simp), hc 3 (by simp), hc 4 (by simp), hc 5 (by simp), hc 6 (by simp), hc 7 (by simp), hc 8 (by simp), hc 9 (by simp), h1, h2, h3, h4, h5, h6, h7, h8⟩
end Go.Proofs.YtlgmjnjhdamknaaGreat

namespace Go.Proofs.YtlgmjnjhdamknaaGreat
open Go.RowKit

def RTickPost (S : Nat → Prop) (q : Nat) (c : Cfg) (a : Ask) (w : World) (r : Mst × List UInt8 × MOut) (e : Ending) (w' : World) : Prop :=
  ∃ B n cc h k t, e = .returned (.tuple #[.slice B n cc, .int .i64 ((Ms.kind r.2.2 : Nat) : Int), ansV (Ms.ans r.2.2) h k t]) ∧ r.2.1.length = n ∧ n ≤ cc ∧ cc ≤ maxLen ∧ Lies u8v w' B r.2.1 ∧ AnsIn w' (Ms.ans r.2.2) h k t ∧ RMAtA w' S q c a r.1 ∧ But [q] w w'

set_option maxRecDepth 100000 in
set_option maxHeartbeats 1000000 in
theorem rfailed8_any (S : Nat → Prop) (q : Nat) (c : Cfg) (mq t f : Nat) (b : List UInt8) (a : Ask) (qt : Int) (h k d : Hd) (w : World) (o : MOut) (ho : o = .silent ∨ o = .garbled)
    (hr : RMRaw w q S c 2 qt f t a h k d b) (hq : min qt c.gap = mq) :
    Calls Tryz.prog 32 #[.pointer (some ⟨q, 0, none⟩), .int .i64 ((Ms.kind o : Nat) : Int)] w (RTickPost S q c a w (Ms.fail c mq t a o)) := by
  have c3 : w.cell? ⟨q, 3, none⟩ = some (.int .i64 (c.tries : Int)) := hr.cell rfl
  have c4 : w.cell? ⟨q, 4, none⟩ = some (.int .i64 2) := hr.cell rfl
  have c6 : w.cell? ⟨q, 6, none⟩ = some (.int .i64 (f : Int)) := hr.cell rfl
  have c7 : w.cell? ⟨q, 7, none⟩ = some (.int .i64 (t : Int)) := hr.cell rfl
  have hqlt := hr.lt
  have f4 := hr.free 4
  have f6 := hr.free 6
  have HR := qh hr
  have HQ := qh hq
  have hrow := row_at w #[.int .i64 0, .slice none 0 0, .slice none 0 0, .slice none 0 0] 51 w.heap.size rfl
  have hbe : Below w.heap.size w (w.alloc (.cells #[.int .i64 0, .slice none 0 0, .slice none 0 0, .slice none 0 0] 51)) := (Below.refl _ _).alloc (zq _) _
  have HBE := qh hbe
  obtain ⟨p0, p1, p2, p3⟩ := row_quad hrow
  have hqne : q ≠ w.heap.size := Nat.ne_of_lt hqlt
  have hqne' : w.heap.size ≠ q := Nat.ne_of_gt hqlt
  clear hrow hbe
  have ha : Ms.ans o = An.zero := by rcases ho with rfl | rfl <;> rfl
  obtain ⟨kk, hk⟩ : ∃ kk, Ms.kind o = kk := ⟨_, rfl⟩
  have HK := qh hk
  have HA := qh ha
  rw [hk]
  clear hr hq ha hk ho
  by_cases hlt : t < c.tries
  · have e : Ms.fail c mq t a o = (⟨mq, .wants 0 t a⟩, [], .none) := if_pos hlt
    have i1 : (t : Int) < (c.tries : Int) := by omega
    rw [e]
    go_enter Tryz.func32, Tryz.ntmps32
    go_wp2_with fail
    go_quiet (fail)
    go_wp2_with fail
    refine bodyPost_ret_by (v := .tuple #[.slice none 0 0, .int .i64 0, .agg #[.int .i64 0, .slice none 0 0, .slice none 0 0, .slice none 0 0]]) (by simp [results, Tryz.f32, go_sem, p0, p1, p2, p3]) rfl ?_
    have hbd : Below w.heap.size w _ := (((But.of_below (S := []) HBE.out (zq _)).drewN nq).below (fun _ hg => absurd hg List.not_mem_nil) (zq _))
    have hw := HR.out.wide (S' := fun g => S g ∨ g = w.heap.size) hbd (.inl HR.out.sq) (fun g hg => hg.imp id (fun e => Nat.le_of_eq e.symm)) (fun g hg => by
      rcases hg with hg | rfl
      · exact Nat.lt_of_lt_of_le (HR.out.sl g hg) hbd.size
      · simp [World.drewN])
    have hbut : But [q] w _ := But.of_below (S := [q]) hbd (zq _)
    have hw1 := hw.store (i := 4) (v := .int .i64 1) (st' := 1) (qt' := qt) (sp' := f) (tr' := t) rfl HR.out.q0 HR.out.q1
    have hbut := hbut.setCell (p := ⟨q, 4, none⟩) (.inl (List.mem_singleton.2 rfl)) (.int .i64 1)
    have hw2 := hw1.store (i := 6) (v := .int .i64 0) (st' := 1) (qt' := qt) (sp' := 0) (tr' := t) rfl HR.out.q0 HR.out.q1
    have hbut := hbut.setCell (p := ⟨q, 6, none⟩) (.inl (List.mem_singleton.2 rfl)) (.int .i64 0)
    have hfin := (RMRaw.but hw2 (T := [w.heap.size]) (((((But.refl _ _).setCell (p := ⟨w.heap.size, 0, none⟩) (.inl (List.mem_singleton.2 rfl)) (.int .i64 0)).setCell (p := ⟨w.heap.size, 1, none⟩) (.inl (List.mem_singleton.2 rfl)) (.slice none 0 0)).setCell (p := ⟨w.heap.size, 2, none⟩) (.inl (List.mem_singleton.2 rfl)) (.slice none 0 0)).setCell (p := ⟨w.heap.size, 3, none⟩) (.inl (List.mem_singleton.2 rfl)) (.slice none 0 0)) (fun g hg => .inr (List.mem_singleton.1 hg)) (by simpa using hqne)).narrow (S := S) (fun g hg => .inl hg) HR.out.sq
    have hbut := hbut.setCell (p := ⟨w.heap.size, 0, none⟩) (.inr (zq _)) (.int .i64 0)
    have hbut := hbut.setCell (p := ⟨w.heap.size, 1, none⟩) (.inr (zq _)) (.slice none 0 0)
    have hbut := hbut.setCell (p := ⟨w.heap.size, 2, none⟩) (.inr (zq _)) (.slice none 0 0)
    have hbut := hbut.setCell (p := ⟨w.heap.size, 3, none⟩) (.inr (zq _)) (.slice none 0 0)
    exact ⟨none, 0, 0, (none, 0, 0), (none, 0, 0), (none, 0, 0), rfl, rfl, zq _, Nat.zero_le _, Lies.nil _ _, AnsIn.zero _, ⟨1, qt, 0, t, h, k, d, b, hfin, HQ.out, rfl, rfl, rfl, rfl⟩, hbut⟩
  · have e : Ms.fail c mq t a o = (⟨mq, .idle⟩, [], o) := if_neg hlt
    have i1 : ¬ (t : Int) < (c.tries : Int) := by omega
    rw [e]
    go_enter Tryz.func32, Tryz.ntmps32
    go_wp2_with fail
    go_quiet (fail)
    go_wp2_with fail
    refine bodyPost_ret_by (v := .tuple #[.slice none 0 0, .int .i64 kk, .agg #[.int .i64 0, .slice none 0 0, .slice none 0 0, .slice none 0 0]]) (by simp [results, Tryz.f32, go_sem, p0, p1, p2, p3]) rfl ?_
    have hbd : Below w.heap.size w _ := (((But.of_below (S := []) HBE.out (zq _)).drewN nq).below (fun _ hg => absurd hg List.not_mem_nil) (zq _))
    have hw := HR.out.wide (S' := fun g => S g ∨ g = w.heap.size) hbd (.inl HR.out.sq) (fun g hg => hg.imp id (fun e => Nat.le_of_eq e.symm)) (fun g hg => by
      rcases hg with hg | rfl
      · exact Nat.lt_of_lt_of_le (HR.out.sl g hg) hbd.size
      · simp [World.drewN])
    have hbut : But [q] w _ := But.of_below (S := [q]) hbd (zq _)
    have hw1 := hw.store (i := 4) (v := .int .i64 0) (st' := 0) (qt' := qt) (sp' := f) (tr' := t) rfl HR.out.q0 HR.out.q1
    have hbut := hbut.setCell (p := ⟨q, 4, none⟩) (.inl (List.mem_singleton.2 rfl)) (.int .i64 0)
    have hfin := (RMRaw.but hw1 (T := [w.heap.size]) (((((But.refl _ _).setCell (p := ⟨w.heap.size, 0, none⟩) (.inl (List.mem_singleton.2 rfl)) (.int .i64 0)).setCell (p := ⟨w.heap.size, 1, none⟩) (.inl (List.mem_singleton.2 rfl)) (.slice none 0 0)).setCell (p := ⟨w.heap.size, 2, none⟩) (.inl (List.mem_singleton.2 rfl)) (.slice none 0 0)).setCell (p := ⟨w.heap.size, 3, none⟩) (.inl (List.mem_singleton.2 rfl)) (.slice none 0 0)) (fun g hg => .inr (List.mem_singleton.1 hg)) (by simpa using hqne)).narrow (S := S) (fun g hg => .inl hg) HR.out.sq
    have hbut := hbut.setCell (p := ⟨w.heap.size, 0, none⟩) (.inr (zq _)) (.int .i64 0)
    have hbut := hbut.setCell (p := ⟨w.heap.size, 1, none⟩) (.inr (zq _)) (.slice none 0 0)
    have hbut := hbut.setCell (p := ⟨w.heap.size, 2, none⟩) (.inr (zq _)) (.slice none 0 0)
    have hbut := hbut.setCell (p := ⟨w.heap.size, 3, none⟩) (.inr (zq _)) (.slice none 0 0)
    exact ⟨none, 0, 0, (none, 0, 0), (none, 0, 0), (none, 0, 0), by rw [HK.out, HA.out]; rfl, rfl, zq _, Nat.zero_le _, Lies.nil _ _, by rw [HA.out]; exact AnsIn.zero _, ⟨0, qt, f, t, h, k, d, b, hfin, HQ.out, rfl⟩, hbut⟩

end Go.Proofs.YtlgmjnjhdamknaaGreat

namespace Go.Proofs.YtlgmjnjhdamknaaGreat
open Go.RowKit

abbrev zeroAns : Obj := .cells #[.int .i64 0, .slice none 0 0, .slice none 0 0, .slice none 0 0] 51
theorem tick_start {w : World} {q : Nat} {S : Nat → Prop} {c : Cfg} {st qt sp tr Q : Int} {a : Ask} {h k d : Hd} {b : List UInt8} (hr : RMRaw w q S c st qt sp tr a h k d b) (h0 : 0 ≤ Q) (h1 : Q ≤ 1000000) (W : World) (hW : ((w.setCell ⟨q, 5, none⟩ (.int .i64 Q)).alloc zeroAns).alloc zeroAns = W) :
    But [q] w W ∧ RMRaw W q S c st Q sp tr a h k d b ∧ W.heap[w.heap.size]? = some zeroAns ∧ W.heap[w.heap.size + 1]? = some zeroAns ∧ W.heap.size = w.heap.size + 2 := by
  subst hW
  have hs : (w.setCell ⟨q, 5, none⟩ (.int .i64 Q)).heap.size = w.heap.size := by simp [World.setCell]
  have hb : But [q] w (((w.setCell ⟨q, 5, none⟩ (.int .i64 Q)).alloc zeroAns).alloc zeroAns) := ((But.one w q 5 _).alloc _).alloc _
  have r1 := row_at (w.setCell ⟨q, 5, none⟩ (.int .i64 Q)) #[.int .i64 0, .slice none 0 0, .slice none 0 0, .slice none 0 0] 51 w.heap.size hs
  have hs1 : ((w.setCell ⟨q, 5, none⟩ (.int .i64 Q)).alloc zeroAns).heap.size = w.heap.size + 1 := by simp [hs]
  have r2 := row_at ((w.setCell ⟨q, 5, none⟩ (.int .i64 Q)).alloc zeroAns) #[.int .i64 0, .slice none 0 0, .slice none 0 0, .slice none 0 0] 51 (w.heap.size + 1) hs1
  have hq : (w.setCell ⟨q, 5, none⟩ (.int .i64 Q)).heap[q]? = some (.cells (rmCells c st Q sp tr a h k d) 61 (0, 0)) := by rw [row_set hr.row]; rfl
  exact ⟨hb, hr.next hb (row_later_set (row_later_set hq _) _) h0 h1, row_later_set r1 _, r2, by simp [hs]⟩
theorem tick_put {w w1 : World} {q g : Nat} {o : Obj} {c0 c1 c2 c3 : Value} {t : TypeId} (hb : But [q] w w1) (hr : w1.heap[q]? = some o) (h0 : w1.heap[g]? = some (.cells #[c0, c1, c2, c3] t (0, 0))) (hg : w.heap.size ≤ g) (hgq : q < w.heap.size) (n : Nat) (v0 v1 v2 v3 : Value) (W : World)
    (hW : (((((w1.setCell ⟨g, 0, none⟩ v0).setCell ⟨g, 1, none⟩ v1).setCell ⟨g, 2, none⟩ v2).setCell ⟨g, 3, none⟩ v3).drewN n) = W) :
    But [q] w W ∧ W.heap[q]? = some o ∧ (W.cell? ⟨g, 0, none⟩ = some v0 ∧ W.cell? ⟨g, 1, none⟩ = some v1 ∧ W.cell? ⟨g, 2, none⟩ = some v2 ∧ W.cell? ⟨g, 3, none⟩ = some v3) ∧ ∀ T : List Nat, g ∈ T → But T w1 W := by
  subst hW
  have hT : ∀ T : List Nat, g ∈ T → But T w1 (((((w1.setCell ⟨g, 0, none⟩ v0).setCell ⟨g, 1, none⟩ v1).setCell ⟨g, 2, none⟩ v2).setCell ⟨g, 3, none⟩ v3).drewN n) := fun T h => (((((But.refl T w1).setCell (p := ⟨g, 0, none⟩) (.inl h) v0).setCell (p := ⟨g, 1, none⟩) (.inl h) v1).setCell (p := ⟨g, 2, none⟩) (.inl h) v2).setCell (p := ⟨g, 3, none⟩) (.inl h) v3).drewN n
  refine ⟨(((((hb.setCell (p := ⟨g, 0, none⟩) (.inr hg) v0).setCell (p := ⟨g, 1, none⟩) (.inr hg) v1).setCell (p := ⟨g, 2, none⟩) (.inr hg) v2).setCell (p := ⟨g, 3, none⟩) (.inr hg) v3).drewN n), row_but hr (hT [g] (List.mem_singleton.2 rfl)) (by rw [List.mem_singleton]; omega), ?_, hT⟩
  have := stored_four8 h0 v0 v1 v2 v3
  exact row_quad this

set_option maxRecDepth 100000 in
set_option maxHeartbeats 1000000 in
theorem rtick8_idle (S : Nat → Prop) (q : Nat) (c : Cfg) (mq : Nat) (b : List UInt8) (a : Ask) (qt sp tr : Int) (h k d : Hd) (w : World)
    (hc : Ms.right c = true) (hr : RMRaw w q S c 0 qt sp tr a h k d b) (hq : min qt c.gap = mq) :
    Calls Tryz.prog 13 #[.pointer (some ⟨q, 0, none⟩)] w (RTickPost S q c a w (Ms.tick c ⟨mq, .idle⟩)) := by
  have hsm := cfg_small hc
  have c4 : w.cell? ⟨q, 4, none⟩ = some (.int .i64 0) := hr.cell rfl
  have c5 : w.cell? ⟨q, 5, none⟩ = some (.int .i64 qt) := hr.cell rfl
  have hqlt := hr.lt
  have f5 := hr.free 5
  have q0 := hr.q0
  have q1 := hr.q1
  obtain ⟨Q, hQ⟩ : ∃ Q, min (qt + 1) 1000000 = Q := ⟨_, rfl⟩
  have hqq : min Q (c.gap : Int) = ((min (mq + 1) c.gap : Nat) : Int) := by omega
  have hQ0 : 0 ≤ Q := by omega
  have hQ1 : Q ≤ 1000000 := by omega
  have i1 : qt + 1 < 9223372036854775808 := by omega
  have HR := qh hr
  have HQQ := qh hqq
  have HM : Hid (Ms.tick c ⟨mq, .idle⟩ = (⟨min (mq + 1) c.gap, .idle⟩, [], .none)) := qh rfl
  rw [HM.out]
  clear hsm hc hr hq hqq
  go_enter Tryz.func13, Tryz.ntmps13
  go_wp2_with fail
  obtain ⟨w1, hw1⟩ : ∃ w1, ((w.setCell ⟨q, 5, none⟩ (.int .i64 Q)).alloc zeroAns).alloc zeroAns = w1 := ⟨_, rfl⟩
  obtain ⟨b1, r1, z0, z1, s1⟩ := tick_start HR.out hQ0 hQ1 w1 hw1
  have HR1 := qh r1
  unfold zeroAns at hw1 z0 z1
  rw [hw1]
  obtain ⟨p0, p1, p2, p3⟩ := row_quad z1
  obtain ⟨x0, x1, x2, x3⟩ := row_quad_free z1
  obtain ⟨o0, o1, o2, o3⟩ := row_quad z0
  obtain ⟨y0, y1, y2, y3⟩ := row_quad_free z0
  have HZ := qh z0
  clear hw1 r1 c4 c5 f5 z0 z1
  go_region
  go_wp2_with fail
  obtain ⟨w2, hw2⟩ : ∃ w2, ((((w1.setCell ⟨w.heap.size, 0, none⟩ (.int .i64 0)).setCell ⟨w.heap.size, 1, none⟩ (.slice none 0 0)).setCell ⟨w.heap.size, 2, none⟩ (.slice none 0 0)).setCell ⟨w.heap.size, 3, none⟩ (.slice none 0 0)).drew = w2 := ⟨_, rfl⟩
  obtain ⟨hb, hrow, ⟨s0, s1, s2, s3⟩, -⟩ := tick_put (g := w.heap.size) b1 HR1.out.row HZ.out (zq _) hqlt 1 _ _ _ _ w2 hw2
  rw [hw2]
  clear hw2 p0 p1 p2 p3 o0 o1 o2 o3 y0 y1 y2 y3 x0 x1 x2 x3
  refine bodyPost_ret_by (v := .tuple #[.slice none 0 0, .int .i64 0, .agg #[.int .i64 0, .slice none 0 0, .slice none 0 0, .slice none 0 0]]) (by simp [results, Tryz.f13, go_sem, s0, s1, s2, s3]) rfl ?_
  exact ⟨none, 0, 0, (none, 0, 0), (none, 0, 0), (none, 0, 0), rfl, rfl, zq _, Nat.zero_le _, Lies.nil _ _, AnsIn.zero _, ⟨0, Q, sp, tr, h, k, d, b, HR.out.next hb hrow hQ0 hQ1, HQQ.out, rfl⟩, hb⟩

end Go.Proofs.YtlgmjnjhdamknaaGreat
