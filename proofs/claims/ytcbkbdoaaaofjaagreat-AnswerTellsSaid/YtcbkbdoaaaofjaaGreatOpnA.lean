
/-
  What comes in as requests, opened.
-/
import Derived.Test.YtcbkbdoaaaofjaaGreatOpn
import Derived.Test.YtcbkbdoaaaofjaaGreatAwake7
namespace Go.Proofs.YtcbkbdoaaaofjaaGreat
open Go.ChangeShapes Go.WideShapes Go.ChangeAt Go.RowKit

/-- A request's eight cells. -/
def RAsk (w : World) (a : Ask) (cs : List Value) : Prop := ∃ h k : Option Addr × Nat × Nat, askV a h k = .agg cs.toArray ∧ AskIn w a h k ∧ AskNums a

section
variable {P : Program} {H : Type} {enc : TypeId × Value → H} {w : World} {b : Nat} {sp : Nat → Bool} {hd : Bool} {t e ew eb : TypeId}
theorem agg_of {r : Reach} {b0 : Nat} {v : Value} {fs : Array Field} (hu : P.underlying t = some (.struct fs)) (hval : Value.okWide P w r b0 t v) : ∃ cs : Array Value, v = .agg cs := by
  simp only [Value.okWide, hu] at hval
  obtain ⟨cs, rfl, _⟩ := hval
  exact ⟨cs, rfl⟩
theorem open_ask {f0 f1 f2 f3 f4 f5 f6 f7 : Field} (hu : P.underlying t = some (.struct #[f0, f1, f2, f3, f4, f5, f6, f7])) (h0 : P.underlying f0.type = some (.int .i64)) (h1 : P.underlying f1.type = some (.int .i64)) (h2 : P.underlying f2.type = some (.int .i64)) (h3 : P.underlying f3.type = some (.int .i64)) (h4 : P.underlying f4.type = some (.slice ew)) (h5 : P.underlying f5.type = some (.slice eb)) (h6 : P.underlying f6.type = some (.int .u16)) (h7 : P.underlying f7.type = some (.int .u16)) (hew : P.underlying ew = some (.int .u16)) (heb : P.underlying eb = some .bool) (hcw : P.cellsOf ew = 1) (hcb : P.cellsOf eb = 1) (ho0 : f0.offset = 0) (hc0 : P.cellsOf f0.type = 1) (ho1 : f1.offset = 1) (hc1 : P.cellsOf f1.type = 1) (ho2 : f2.offset = 2) (hc2 : P.cellsOf f2.type = 1) (ho3 : f3.offset = 3) (hc3 : P.cellsOf f3.type = 1) (ho4 : f4.offset = 4) (hc4 : P.cellsOf f4.type = 1) (ho5 : f5.offset = 5) (hc5 : P.cellsOf f5.type = 1) (ho6 : f6.offset = 6) (hc6 : P.cellsOf f6.type = 1) (ho7 : f7.offset = 7) (hc7 : P.cellsOf f7.type = 1) (hck : P.cellsOf t = 8) : Opens enc P w b sp hd t (RAsk w) := by
  intro m cs y h hs
  obtain ⟨xs, k, rfl, hx, hl, hxl, hf⟩ := DataW.trod_struct hu h
  rw [hck] at hl
  obtain ⟨x0, x1, x2, x3, x4, x5, x6, x7, rfl⟩ : ∃ x0  x1  x2  x3  x4  x5  x6  x7, xs = [x0, x1, x2, x3, x4, x5, x6, x7] := by
    match xs, hxl with
    | [x0, x1, x2, x3, x4, x5, x6, x7], _ => exact ⟨x0, x1, x2, x3, x4, x5, x6, x7, rfl⟩
  have hs' : Small P t (.agg ([x0, x1, x2, x3, x4, x5, x6, x7].map (·.1))) := by rw [hx] at hs; exact hs
  match cs, hl with
  | [c0, c1, c2, c3, c4, c5, c6, c7], _ =>
    have g0 := hf 0 f0 rfl
    rw [ho0, hc0] at g0
    have g1 := hf 1 f1 rfl
    rw [ho1, hc1] at g1
    have g2 := hf 2 f2 rfl
    rw [ho2, hc2] at g2
    have g3 := hf 3 f3 rfl
    rw [ho3, hc3] at g3
    have g4 := hf 4 f4 rfl
    rw [ho4, hc4] at g4
    have g5 := hf 5 f5 rfl
    rw [ho5, hc5] at g5
    have g6 := hf 6 f6 rfl
    rw [ho6, hc6] at g6
    have g7 := hf 7 f7 rfl
    rw [ho7, hc7] at g7
    obtain ⟨z0, e0, l0, u0⟩ := open_i64 h0 _ _ _ g0 (small_part hu hs' (j := 0) rfl rfl)
    obtain ⟨z1, e1, l1, u1⟩ := open_i64 h1 _ _ _ g1 (small_part hu hs' (j := 1) rfl rfl)
    obtain ⟨z2, e2, l2, u2⟩ := open_i64 h2 _ _ _ g2 (small_part hu hs' (j := 2) rfl rfl)
    obtain ⟨z3, e3, l3, u3⟩ := open_i64 h3 _ _ _ g3 (small_part hu hs' (j := 3) rfl rfl)
    obtain ⟨z4, A4, n4, d4, e4, a4, b4, m4, _, L4⟩ := open_slice h4 hcw (by omega) (open_u16 hew) _ _ _ g4 (small_part hu hs' (j := 4) rfl rfl)
    obtain ⟨z5, A5, n5, d5, e5, a5, b5, m5, _, L5⟩ := open_slice h5 hcb (by omega) (open_bit heb) _ _ _ g5 (small_part hu hs' (j := 5) rfl rfl)
    obtain ⟨z6, e6⟩ := open_u16 h6 _ _ _ g6 (small_part hu hs' (j := 6) rfl rfl)
    obtain ⟨z7, e7⟩ := open_u16 h7 _ _ _ g7 (small_part hu hs' (j := 7) rfl rfl)
    simp at e0 e1 e2 e3 e4 e5 e6 e7
    subst e0 e1 e2 e3 e4 e5 e6 e7
    exact ⟨⟨z0, z1, z2, z3, z4, z5, z6, z7⟩, (A4, n4, d4), (A5, n5, d5), rfl, ⟨a4, b4, m4, L4.lies, a5, b5, m5, L5.lies⟩, ⟨l0, u0, l1, u1, l2, u2, l3, u3⟩⟩
end
end Go.Proofs.YtcbkbdoaaaofjaaGreat

/-
  What comes in as answers, opened.
-/
namespace Go.Proofs.YtcbkbdoaaaofjaaGreat
open Go.ChangeShapes Go.WideShapes Go.ChangeAt Go.RowKit

/-- An answer's four cells. -/
def RAns (w : World) (x : Ans) (cs : List Value) : Prop := ∃ h k t : Hd, ansV x h k t = .agg cs.toArray ∧ AnsIn w x h k t

section
variable {P : Program} {H : Type} {enc : TypeId × Value → H} {w : World} {b : Nat} {sp : Nat → Bool} {hd : Bool} {t e ew eb es : TypeId}
theorem open_str (hu : P.underlying t = some .string) : Opens enc P w b sp hd t (fun (x : ByteArray) cs => cs = [strv x] ∧ x.size ≤ 140737488355328) := by
  intro m cs y h hs
  obtain ⟨s, rfl, hy, _⟩ := DataW.trod_string hu h
  refine ⟨s, rfl, ?_⟩
  rw [hy] at hs
  have h1 := hs s.data.toList.length (by simp [DataW.weights])
  rw [Array.length_toList] at h1
  have h2 : s.data.size ≤ 140737488351232 := h1
  show s.data.size ≤ _
  omega
theorem open_ans {f0 f1 f2 f3 : Field} (hu : P.underlying t = some (.struct #[f0, f1, f2, f3])) (h0 : P.underlying f0.type = some (.int .i64)) (h1 : P.underlying f1.type = some (.slice eb)) (h2 : P.underlying f2.type = some (.slice ew)) (h3 : P.underlying f3.type = some (.slice es)) (hew : P.underlying ew = some (.int .u16)) (heb : P.underlying eb = some .bool) (hes : P.underlying es = some .string) (hcw : P.cellsOf ew = 1) (hcb : P.cellsOf eb = 1) (hcs : P.cellsOf es = 1)
    (ho0 : f0.offset = 0) (hc0 : P.cellsOf f0.type = 1) (ho1 : f1.offset = 1) (hc1 : P.cellsOf f1.type = 1) (ho2 : f2.offset = 2) (hc2 : P.cellsOf f2.type = 1) (ho3 : f3.offset = 3) (hc3 : P.cellsOf f3.type = 1) (hck : P.cellsOf t = 4) :
    Opens enc P w b sp hd t (RAns w) := by
  intro m cs y h hs
  obtain ⟨xs, k, rfl, hx, hl, hxl, hf⟩ := DataW.trod_struct hu h
  rw [hck] at hl
  obtain ⟨x0, x1, x2, x3, rfl⟩ : ∃ x0 x1 x2 x3, xs = [x0, x1, x2, x3] := by
    match xs, hxl with
    | [x0, x1, x2, x3], _ => exact ⟨x0, x1, x2, x3, rfl⟩
  have hs' : Small P t (.agg ([x0, x1, x2, x3].map (·.1))) := by rw [hx] at hs; exact hs
  match cs, hl with
  | [c0, c1, c2, c3], _ =>
    have g0 := hf 0 f0 rfl
    rw [ho0, hc0] at g0
    have g1 := hf 1 f1 rfl
    rw [ho1, hc1] at g1
    have g2 := hf 2 f2 rfl
    rw [ho2, hc2] at g2
    have g3 := hf 3 f3 rfl
    rw [ho3, hc3] at g3
    obtain ⟨z0, e0, -, -⟩ := open_i64 h0 _ _ _ g0 (small_part hu hs' (j := 0) rfl rfl)
    obtain ⟨z1, A1, n1, d1, e1, a1, b1, m1, _, L1⟩ := open_slice h1 hcb (by omega) (open_bit heb) _ _ _ g1 (small_part hu hs' (j := 1) rfl rfl)
    obtain ⟨z2, A2, n2, d2, e2, a2, b2, m2, _, L2⟩ := open_slice h2 hcw (by omega) (open_u16 hew) _ _ _ g2 (small_part hu hs' (j := 2) rfl rfl)
    obtain ⟨z3, A3, n3, d3, e3, a3, b3, m3, _, L3⟩ := open_slice h3 hcs (by omega) (open_str hes) _ _ _ g3 (small_part hu hs' (j := 3) rfl rfl)
    have hts : ∀ s ∈ z3, s.size ≤ 140737488355328 := by
      intro s hs
      obtain ⟨j, hj, rfl⟩ := List.getElem_of_mem hs
      obtain ⟨_, _, _, _, _, _, hR⟩ := L3 j hj
      exact hR.2
    simp at e0 e1 e2 e3
    subst e0 e1 e2 e3
    exact ⟨⟨z0, z1, z2, z3⟩, (A1, n1, d1), (A2, n2, d2), (A3, n3, d3), rfl, ⟨a1, b1, m1, L1.lies, a2, b2, m2, L2.lies, a3, b3, m3, (L3.imp fun _ _ h => h.1).lies, hts⟩⟩
theorem open_two {β : Type} {R : β → List Value → Prop} {k : Nat} (hu : P.underlying t = some (.array 2 e)) (hk : P.cellsOf e = k) (hc : P.cellsOf t = 2 * k) (he : Opens enc P w b sp hd e R) : Opens enc P w b sp hd t (fun (xy : β × β) cs => ∃ c1 c2, cs = c1 ++ c2 ∧ R xy.1 c1 ∧ R xy.2 c2) := by
  intro m cs y h hs
  obtain ⟨xs, n, _, hy, hl, hxl, hf⟩ := DataW.trod_array hu h
  obtain ⟨x0, x1, rfl⟩ : ∃ x0 x1, xs = [x0, x1] := by
    match xs, hxl with
    | [x0, x1], _ => exact ⟨x0, x1, rfl⟩
  rw [hy] at hs
  simp only [Small, DataW.weights, hu] at hs
  have hall := weights_all hs
  have g0 := hf 0 (by omega)
  have g1 := hf 1 (by omega)
  rw [hk] at g0 g1
  obtain ⟨z0, r0⟩ := he _ _ _ g0 (hall _ (by simp))
  obtain ⟨z1, r1⟩ := he _ _ _ g1 (hall _ (by simp))
  refine ⟨(z0, z1), _, _, ?_, r0, r1⟩
  rw [Nat.zero_mul, List.drop_zero, Nat.one_mul]
  rw [List.take_of_length_le (l := cs.drop k) (by rw [List.length_drop, hl, hc]; omega), List.take_append_drop]
/-- Two answers' eight cells. -/
theorem two_agg {cs : Array Value} {c1 c2 : List Value} {x y : Ans} {h k t h' k' t' : Hd} (hc : cs.toList = c1 ++ c2) (e1 : ansV x h k t = .agg c1.toArray) (e2 : ansV y h' k' t' = .agg c2.toArray) :
    Value.agg cs = .agg #[.int .i64 x.exc, .slice h.1 h.2.1 h.2.2, .slice k.1 k.2.1 k.2.2, .slice t.1 t.2.1 t.2.2, .int .i64 y.exc, .slice h'.1 h'.2.1 h'.2.2, .slice k'.1 k'.2.1 k'.2.2, .slice t'.1 t'.2.1 t'.2.2] := by
  unfold ansV at e1 e2
  have f1 : c1 = [.int .i64 x.exc, .slice h.1 h.2.1 h.2.2, .slice k.1 k.2.1 k.2.2, .slice t.1 t.2.1 t.2.2] := by
    have := congrArg Array.toList (Value.agg.inj e1)
    simpa using this.symm
  have f2 : c2 = [.int .i64 y.exc, .slice h'.1 h'.2.1 h'.2.2, .slice k'.1 k'.2.1 k'.2.2, .slice t'.1 t'.2.1 t'.2.2] := by
    have := congrArg Array.toList (Value.agg.inj e2)
    simpa using this.symm
  congr 1
  rw [f1, f2] at hc
  exact Array.toList_inj.1 hc
theorem agg_two {r : Reach} {b0 : Nat} {v : Value} {n : Nat} (hu : P.underlying t = some (.array n e)) (hval : Value.okWide P w r b0 t v) : ∃ cs : Array Value, v = .agg cs := by
  simp only [Value.okWide, hu] at hval
  obtain ⟨cs, rfl, _⟩ := hval
  exact ⟨cs, rfl⟩
end
end Go.Proofs.YtcbkbdoaaaofjaaGreat
