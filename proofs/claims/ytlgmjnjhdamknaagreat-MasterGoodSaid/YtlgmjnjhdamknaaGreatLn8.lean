
/-
  The landed master: Right, New, Busy, turn, end, quiet.
-/
import Derived.Test.YtlgmjnjhdamknaaGreatCm8
import Derived.Test.YtlgmjnjhdamknaaGreatRtu
import Derived.LaidEql
import Derived.Stop.Asserts
import Derived.RowKitTokens
import Derived.Test.YtlgmjnjhdamknaaGreatBeq
import Derived.Laws.IdiomStrings
namespace Go.Proofs.YtlgmjnjhdamknaaGreat
open Go.RowKit

set_option maxRecDepth 100000 in
set_option maxHeartbeats 4000000 in
theorem right8_any (u : UInt8) (g f t : Int) (w : World) :
    Calls Tryz.prog 10 #[.agg #[u8v u, .int .i64 g, .int .i64 f, .int .i64 t]] w fun e w' => e = .returned (.bool (decide (1 ≤ u.toNat) && decide (u.toNat ≤ 247) && decide (1 ≤ g) && decide (g ≤ 20) && decide (1 ≤ f) && decide (f ≤ 1000) && decide (1 ≤ t) && decide (t ≤ 5))) ∧ Below w.heap.size w w' := by
  have hrow := row_at w #[u8v u, .int .i64 g, .int .i64 f, .int .i64 t] 23 w.heap.size rfl
  have hb : Below w.heap.size w (w.alloc (.cells #[u8v u, .int .i64 g, .int .i64 f, .int .i64 t] 23)) := (Below.refl _ _).alloc (Nat.le_refl _) _
  obtain ⟨p0, p1, p2, p3⟩ := row_quad hrow
  obtain ⟨V, hV⟩ : ∃ V, (decide (1 ≤ u.toNat) && decide (u.toNat ≤ 247) && decide (1 ≤ g) && decide (g ≤ 20) && decide (1 ≤ f) && decide (f ≤ 1000) && decide (1 ≤ t) && decide (t ≤ 5)) = V := ⟨_, rfl⟩
  rw [hV]
  have H1 := within8_any (u.toNat : Int) 247 (w.alloc (.cells #[u8v u, .int .i64 g, .int .i64 f, .int .i64 t] 23))
  have H2 := within8_any g 20 (w.alloc (.cells #[u8v u, .int .i64 g, .int .i64 f, .int .i64 t] 23))
  have H3 := within8_any f 1000 (w.alloc (.cells #[u8v u, .int .i64 g, .int .i64 f, .int .i64 t] 23))
  have H4 := within8_any t 5 (w.alloc (.cells #[u8v u, .int .i64 g, .int .i64 f, .int .i64 t] 23))
  have hu : (decide (1 ≤ u.toNat) && decide (u.toNat ≤ 247)) = (decide ((1 : Int) ≤ (u.toNat : Int)) && decide ((u.toNat : Int) ≤ 247)) := by
    rw [Bool.eq_iff_iff]
    simp only [Bool.and_eq_true, decide_eq_true_eq]
    omega
  obtain ⟨v1, h1⟩ : ∃ v, (decide ((1 : Int) ≤ (u.toNat : Int)) && decide ((u.toNat : Int) ≤ 247)) = v := ⟨_, rfl⟩
  obtain ⟨v2, h2⟩ : ∃ v, (decide (1 ≤ g) && decide (g ≤ 20)) = v := ⟨_, rfl⟩
  obtain ⟨v3, h3⟩ : ∃ v, (decide (1 ≤ f) && decide (f ≤ 1000)) = v := ⟨_, rfl⟩
  obtain ⟨v4, h4⟩ : ∃ v, (decide (1 ≤ t) && decide (t ≤ 5)) = v := ⟨_, rfl⟩
  have hvv : V = (v1 && v2 && v3 && v4) := by
    rw [← hV, ← h1, ← h2, ← h3, ← h4, ← hu]
    simp only [Bool.and_assoc]
  rw [h1] at H1
  rw [h2] at H2
  rw [h3] at H3
  rw [h4] at H4
  have K1 := Lib.hid H1
  have K2 := Lib.hid H2
  have K3 := Lib.hid H3
  have K4 := Lib.hid H4
  have HV := Lib.hid hvv
  have HB := Lib.hid hb
  clear hV hu h1 h2 h3 h4 hvv hrow H1 H2 H3 H4 hb
  have hwr : wrap64 (u.toNat : Int) = (u.toNat : Int) := by
    have := u.toNat_lt
    rw [wrap64]
    omega
  go_enter Tryz.func10, Tryz.ntmps10
  go_wp2_with fail
  refine K1.out.mono ?_
  rintro e w2 ⟨rfl, rfl⟩
  cases v1 with
  | false =>
    go_wp2_with fail
    go_ret
    exact ⟨by rw [HV.out]; simp, HB.out⟩
  | true =>
    go_wp2_with fail
    refine K2.out.mono ?_
    rintro e w3 ⟨rfl, rfl⟩
    cases v2 with
    | false =>
      go_wp2_with fail
      go_ret
      exact ⟨by rw [HV.out]; simp, HB.out⟩
    | true =>
      go_wp2_with fail
      refine K3.out.mono ?_
      rintro e w4 ⟨rfl, rfl⟩
      cases v3 with
      | false =>
        go_wp2_with fail
        go_ret
        exact ⟨by rw [HV.out]; simp, HB.out⟩
      | true =>
        go_wp2_with fail
        refine K4.out.mono ?_
        rintro e w5 ⟨rfl, rfl⟩
        cases v4 with
        | false =>
          go_wp2_with fail
          go_ret
          exact ⟨by rw [HV.out]; simp, HB.out⟩
        | true =>
          go_wp2_with fail
          go_ret
          exact ⟨by rw [HV.out]; simp, HB.out⟩
#print axioms right8_any

set_option maxRecDepth 100000 in
set_option maxHeartbeats 400000 in
theorem busy8_any (q : Nat) (c : Cfg) (st tr tk sl : Int) (a : Ask) (h k d : Hd) (w : World) (hr : w.heap[q]? = some (.cells (lmCells c st tr tk sl a h k d) 78 (0, 0))) :
    Calls Tryz.prog 20 #[.pointer (some ⟨q, 0, none⟩)] w fun e w' => e = .returned (.bool (st != 0)) ∧ w' = w := by
  obtain ⟨l0, l1, l2, l3, l4, -⟩ := lm_loads hr
  clear hr
  go_enter Tryz.func20, Tryz.ntmps20
  go_wp2_with fail
  go_ret
  exact ⟨rfl, rfl⟩
#print axioms busy8_any
set_option maxRecDepth 100000 in
set_option maxHeartbeats 400000 in
theorem quiet8_any (q : Nat) (c : Cfg) (st tr tk sl : Int) (a : Ask) (h k d : Hd) (w : World) (hr : w.heap[q]? = some (.cells (lmCells c st tr tk sl a h k d) 78 (0, 0))) :
    Calls Tryz.prog 97 #[.pointer (some ⟨q, 0, none⟩)] w fun e w' => e = .returned (.bool (decide ((c.gap : Int) ≤ sl))) ∧ ∃ n, w' = w.drewN n := by
  obtain ⟨l0, l1, l2, l3, l4, l5, l6, l7, -⟩ := lm_loads hr
  clear hr
  go_enter Tryz.func97, Tryz.ntmps97
  go_wp2_with fail
  go_quiet (fail)
  go_wp2_with fail
  go_ret
  exact ⟨rfl, _, rfl⟩
#print axioms quiet8_any
theorem lm_turned {w : World} {q : Nat} {c : Cfg} {st tr tk sl : Int} {a : Ask} {h k d : Hd} {T : TypeId} (hr : w.heap[q]? = some (.cells (lmCells c st tr tk sl a h k d) T (0, 0))) (s : Int) (W : World) (hW : (((w.setCell ⟨q, 4, none⟩ (.int .i64 s)).setCell ⟨q, 14, none⟩ (.int .i64 0)).setCell ⟨q, 16, none⟩ (.slice none 0 0)) = W) :
    But [q] w W ∧ W.heap[q]? = some (.cells (lmCells c s tr 0 sl a h k (none, 0, 0)) T (0, 0)) := by
  subst hW
  refine ⟨(((But.one w q 4 _).setCell (p := ⟨q, 14, none⟩) (.inl (List.mem_singleton.2 rfl)) _).setCell (p := ⟨q, 16, none⟩) (.inl (List.mem_singleton.2 rfl)) _), ?_⟩
  rw [row_set (row_set (row_set hr _) _) _]
  rfl
set_option maxRecDepth 100000 in
set_option maxHeartbeats 400000 in
theorem turn8_any (s : Int) (q : Nat) (c : Cfg) (st tr tk sl : Int) (a : Ask) (h k d : Hd) (w : World) (hr : w.heap[q]? = some (.cells (lmCells c st tr tk sl a h k d) 78 (0, 0))) :
    Calls Tryz.prog 40 #[.pointer (some ⟨q, 0, none⟩), .int .i64 s] w fun e w' => e = .returned (.tuple #[]) ∧ But [q] w w' ∧ w'.heap[q]? = some (.cells (lmCells c s tr 0 sl a h k (none, 0, 0)) 78 (0, 0)) := by
  obtain ⟨l0, l1, l2, l3, l4, l5, l6, l7, l8⟩ := lm_loads hr
  have f4 := lm_frees hr 4
  have f14 := lm_frees hr 14
  have f16 := lm_frees hr 16
  have HT := Lib.hid (lm_turned hr s _ rfl)
  clear hr
  go_enter Tryz.func40, Tryz.ntmps40
  go_wp2_with fail
  go_end0
  exact ⟨rfl, HT.out⟩
#print axioms turn8_any
theorem lm_emptied {w : World} {q : Nat} {c : Cfg} {st tr tk sl : Int} {a : Ask} {h k d : Hd} {T : TypeId} (hr : w.heap[q]? = some (.cells (lmCells c st tr tk sl a h k d) T (0, 0))) (W : World) (hW : ((((((((w.setCell ⟨q, 5, none⟩ (.int .i64 0)).setCell ⟨q, 6, none⟩ (.int .i64 0)).setCell ⟨q, 7, none⟩ (.int .i64 0)).setCell ⟨q, 8, none⟩ (.int .i64 0)).setCell ⟨q, 9, none⟩ (.slice none 0 0)).setCell ⟨q, 10, none⟩ (.slice none 0 0)).setCell ⟨q, 11, none⟩ (.int .u16 0)).setCell ⟨q, 12, none⟩ (.int .u16 0)) = W) :
    But [q] w W ∧ W.heap[q]? = some (.cells (lmCells c st tr tk sl Ak.zero (none, 0, 0) (none, 0, 0) d) T (0, 0)) := by
  subst hW
  have hq : q ∈ [q] := List.mem_singleton.2 rfl
  refine ⟨((((((((But.one w q 5 _).setCell (p := ⟨q, 6, none⟩) (.inl hq) _).setCell (p := ⟨q, 7, none⟩) (.inl hq) _).setCell (p := ⟨q, 8, none⟩) (.inl hq) _).setCell (p := ⟨q, 9, none⟩) (.inl hq) _).setCell (p := ⟨q, 10, none⟩) (.inl hq) _).setCell (p := ⟨q, 11, none⟩) (.inl hq) _).setCell (p := ⟨q, 12, none⟩) (.inl hq) _), ?_⟩
  rw [row_set (row_set (row_set (row_set (row_set (row_set (row_set (row_set hr _) _) _) _) _) _) _) _]
  unfold lmCells
  simp only [List.setIfInBounds_toArray, List.set_cons_zero, List.set_cons_succ]
  rfl
set_option maxRecDepth 100000 in
set_option maxHeartbeats 400000 in
theorem end8_any (q : Nat) (c : Cfg) (st tr tk sl : Int) (a : Ask) (h k d : Hd) (w : World) (hr : w.heap[q]? = some (.cells (lmCells c st tr tk sl a h k d) 78 (0, 0))) :
    Calls Tryz.prog 144 #[.pointer (some ⟨q, 0, none⟩)] w fun e w' => e = .returned (.tuple #[]) ∧ But [q] w w' ∧ w'.heap[q]? = some (.cells (lmCells c 0 tr 0 sl Ak.zero (none, 0, 0) (none, 0, 0) (none, 0, 0)) 78 (0, 0)) := by
  obtain ⟨m5, m6, m7, m8, m9, m10, m11, m12⟩ := lm_asks hr
  have f5 := lm_frees hr 5
  have f6 := lm_frees hr 6
  have f7 := lm_frees hr 7
  have f8 := lm_frees hr 8
  have f9 := lm_frees hr 9
  have f10 := lm_frees hr 10
  have f11 := lm_frees hr 11
  have f12 := lm_frees hr 12
  have HE := Lib.hid (lm_emptied hr _ rfl)
  have HT := Lib.hid (fun W (hW : W.heap[q]? = _) => turn8_any 0 q c st tr tk sl Ak.zero (none, 0, 0) (none, 0, 0) d W hW)
  clear hr
  go_enter Tryz.func144, Tryz.ntmps144
  go_wp2_with fail
  refine (HT.out _ HE.out.2).mono ?_
  rintro e w3 ⟨rfl, hb, hrow⟩
  go_wp2_with fail
  go_end0
  exact ⟨rfl, HE.out.1.trans hb, hrow⟩
#print axioms end8_any
/-- What New leaves. -/
def LNewPost (w : World) (u : UInt8) (g f t : Int) (e : Ending) (w' : World) : Prop :=
  Below w.heap.size w w' ∧ ((∃ (c : Cfg) (q : Nat), c.unit = u ∧ (c.gap : Int) = g ∧ (c.wait : Int) = f ∧ (c.tries : Int) = t ∧ Ms.right c = true ∧ e = .returned (.tuple #[.pointer (some ⟨q, 0, none⟩), .int .i64 0]) ∧ w.heap.size ≤ q ∧ LMAt w' (fun b => b = q) q q c ⟨c.gap, .idle⟩) ∨
    ((decide (1 ≤ u.toNat) && decide (u.toNat ≤ 247) && decide (1 ≤ g) && decide (g ≤ 20) && decide (1 ≤ f) && decide (f ≤ 1000) && decide (1 ≤ t) && decide (t ≤ 5)) = false ∧ e = .returned (.tuple #[.pointer none, .int .i64 1])))
set_option maxRecDepth 100000 in
set_option maxHeartbeats 400000 in
theorem new8_any (u : UInt8) (g f t : Int) (w : World) :
    Calls Tryz.prog 8 #[.agg #[u8v u, .int .i64 g, .int .i64 f, .int .i64 t]] w (LNewPost w u g f t) := by
  have hrow := row_at w #[u8v u, .int .i64 g, .int .i64 f, .int .i64 t] 23 w.heap.size rfl
  have hb : Below w.heap.size w (w.alloc (.cells #[u8v u, .int .i64 g, .int .i64 f, .int .i64 t] 23)) := (Below.refl _ _).alloc (Nat.le_refl _) _
  obtain ⟨p0, p1, p2, p3⟩ := row_quad hrow
  have HR := Lib.hid (right8_any u g f t (w.alloc (.cells #[u8v u, .int .i64 g, .int .i64 f, .int .i64 t] 23)))
  obtain ⟨V, hV⟩ : ∃ V, (decide (1 ≤ u.toNat) && decide (u.toNat ≤ 247) && decide (1 ≤ g) && decide (g ≤ 20) && decide (1 ≤ f) && decide (f ≤ 1000) && decide (1 ≤ t) && decide (t ≤ 5)) = V := ⟨_, rfl⟩
  rw [hV] at HR
  have HV := Lib.hid hV
  have HROW := Lib.hid hrow
  have HB := Lib.hid hb
  clear hV hrow hb
  go_enter Tryz.func8, Tryz.ntmps8
  go_wp2_with fail
  refine HR.out.mono ?_
  rintro e w2 ⟨rfl, hb2⟩
  have HR2 := Lib.hid (row_later HROW.out hb2)
  obtain ⟨s0, s1, s2, s3⟩ := row_quad HR2.out
  clear p0 p1 p2 p3
  cases V with
  | false =>
    go_wp2_with fail
    go_ret2
    exact ⟨HB.out.trans (hb2.mono (by simp)), .inr ⟨HV.out, rfl⟩⟩
  | true =>
    have h := HV.out
    simp only [Bool.and_eq_true, decide_eq_true_eq] at h
    obtain ⟨gn, rfl⟩ := Int.eq_ofNat_of_zero_le (show 0 ≤ g by omega)
    obtain ⟨fn, rfl⟩ := Int.eq_ofNat_of_zero_le (show 0 ≤ f by omega)
    obtain ⟨tn, rfl⟩ := Int.eq_ofNat_of_zero_le (show 0 ≤ t by omega)
    have HH := Lib.hid h
    clear h
    go_wp2_with fail
    go_ret2
    have h := HH.out
    have hbw := HB.out.trans (hb2.mono (by simp))
    have hrw := row_at w2 (lmCells ⟨u, gn, fn, tn⟩ 0 0 0 gn Ak.zero (none, 0, 0) (none, 0, 0) (none, 0, 0)) 78 w2.heap.size rfl
    refine ⟨hbw.alloc hbw.size _, .inl ⟨⟨u, gn, fn, tn⟩, w2.heap.size, rfl, rfl, rfl, rfl, ?_, rfl, hbw.size, 0, 0, 0, Ak.zero, (none, 0, 0), (none, 0, 0), (none, 0, 0), [], ⟨hrw, ⟨rfl, Nat.le_refl _, Nat.zero_le _, Lies.nil _ _, rfl, Nat.le_refl _, Nat.zero_le _, Lies.nil _ _⟩, World.ownsRow_nil _ _ _ _, Nat.zero_le _, rfl, rfl, fun b hb => ?_, fun _ _ _ e => by (cases e), fun _ _ _ e => by (cases e), fun _ e => by (cases e)⟩, Nat.le_refl _, rfl⟩⟩
    · simp only [Ms.right, Bool.and_eq_true, decide_eq_true_eq]
      omega
    · subst hb
      simp
#print axioms new8_any
end Go.Proofs.YtlgmjnjhdamknaaGreat

/-
  errors.Is over a number of api's own type, bare or wrapped once.
-/
namespace Go.Proofs.YtlgmjnjhdamknaaGreat
open Go.RowKit Go.Extern.Stop Go.Stop Go.Extern

theorem callTypeOf (v : Value) (w : World) : (callFunc 137 #[.iface 28 v]).run Tryz.prog w = .ok (.value (.iface 195 (.agg #[.pointer (some ⟨0, 28, none⟩)]))) w := by kernel_rfl
theorem findComparable (v : Value) (w : World) : (Go.method 358 195 v "Comparable").run Tryz.prog w = .ok (210, v) w := by kernel_rfl
theorem callComparable (w : World) : (callFunc 210 #[.agg #[.pointer (some ⟨0, 28, none⟩)]]).run Tryz.prog w = .ok (.value (.bool true)) w := by kernel_rfl
theorem noIsE (v : Value) (xT : TypeId) (w : World) : (Instr.typeAssert (.iface 28 v) xT 197 true).run Tryz.prog w = .ok (.tuple #[.nilIface, .bool false]) w := run_typeAssert_lacksB Tryz.underlying197 (by kernel_rfl) (by kernel_rfl) v xT w
theorem noUnwrapE (v : Value) (xT : TypeId) (w : World) : (Instr.typeAssert (.iface 28 v) xT 200 true).run Tryz.prog w = .ok (.tuple #[.nilIface, .bool false]) w := run_typeAssert_lacksB Tryz.underlying200 (by kernel_rfl) (by kernel_rfl) v xT w
theorem noUnwrapsE (v : Value) (xT : TypeId) (w : World) : (Instr.typeAssert (.iface 28 v) xT 202 true).run Tryz.prog w = .ok (.tuple #[.nilIface, .bool false]) w := run_typeAssert_lacksB Tryz.underlying202 (by kernel_rfl) (by kernel_rfl) v xT w
theorem noIsW (v : Value) (xT : TypeId) (w : World) : (Instr.typeAssert (.iface 139 v) xT 197 true).run Tryz.prog w = .ok (.tuple #[.nilIface, .bool false]) w := run_typeAssert_lacksB Tryz.underlying197 (by kernel_rfl) (by kernel_rfl) v xT w
theorem hasUnwrapW (v : Value) (xT : TypeId) (w : World) : (Instr.typeAssert (.iface 139 v) xT 200 true).run Tryz.prog w = .ok (.tuple #[.iface 139 v, .bool true]) w := run_typeAssert_hasB Tryz.underlying200 (by kernel_rfl) v xT w
theorem findUnwrap (v : Value) (w : World) : (Go.method 358 139 v "Unwrap").run Tryz.prog w = .ok (206, v) w := by kernel_rfl
theorem isComp : (Tryz.prog.info? 28).map (·.comparable) = some true := by kernel_rfl
theorem eql_num (j k : Int) (w : World) : (binOp .eql 103 (.iface 28 (.int .i64 j)) (.iface 28 (.int .i64 k))).run Tryz.prog w = .ok (.bool (j == k)) w := by
  obtain ⟨i, hi, hcmp⟩ := Option.map_eq_some_iff.1 isComp
  have h : ∀ d : Nat, (Op.equalIn (d + 1 + 1) 103 (.iface 28 (.int .i64 j)) (.iface 28 (.int .i64 k))).run Tryz.prog w = .ok (j == k) w := fun d => by
    simp [Op.equalIn, run_underlying Tryz.underlying103, run_underlying Tryz.underlying28, typeInfo, hi, hcmp]
  simp [binOp, Op.equal, Op.maxDepth, h]
theorem is_nil (k : Int) (w : World) : Calls Tryz.prog 93 #[.nilIface, .iface 28 (.int .i64 k)] w fun e w' => e = .returned (.bool false) ∧ w' = w := by
  have hn := run_eql_iface_nil_left (P := Tryz.prog) w 28 (.int .i64 k) Tryz.underlying103
  go_enter Tryz.func93, Tryz.ntmps93
  go_wp2
  go_ret
  exact ⟨rfl, rfl⟩
/-- errors.Is(e, x), e a wrapped number. -/
theorem is_wrapped (s : ByteArray) (j k : Int) (b : Bool) (hb : (j == k) = b) (w : World) :
    Calls Tryz.prog 93 #[.iface 139 (.agg #[.string s, .iface 28 (.int .i64 j)]), .iface 28 (.int .i64 k)] w fun e w' => e = .returned (.bool b) ∧ Below w.heap.size w w' := by
  have tT := callTypeOf
  have mC := findComparable
  have cT := callComparable
  have mU := findUnwrap
  have hjk := fun w => eql_num j k w
  rw [hb] at hjk
  clear hb
  have nE := noIsE
  have uE := noUnwrapE
  have vE := noUnwrapsE
  have nW := noIsW
  have uW := hasUnwrapW
  have hty := run_eql_iface_types (P := Tryz.prog) 139 28 (.agg #[.string s, .iface 28 (.int .i64 j)]) (.int .i64 k) Tryz.underlying103 (by decide)
  go_enter Tryz.func93, Tryz.ntmps93
  go_wp2
  refine wp_loop_rounds 2 ?_
  rw [rounds_succ]
  go_wp2
  rw [rounds_succ]
  cases b with
  | true =>
    go_wp2
    go_ret
    exact ⟨rfl, (Below.refl _ _).alloc (Nat.le_refl _) _⟩
  | false =>
    go_wp2
    go_ret
    exact ⟨rfl, (Below.refl _ _).alloc (Nat.le_refl _) _⟩
end Go.Proofs.YtlgmjnjhdamknaaGreat

/-
  What the landed rtu says of faults: fit, number; bytes.Equal; join of two parts.
-/
namespace Go.Proofs.YtlgmjnjhdamknaaGreat
open Go.RowKit

/-- A fault that wraps a number. -/
abbrev faultV (s : ByteArray) (j : Int) : Value := .iface 139 (.agg #[.string s, .iface 28 (.int .i64 j)])

theorem number_nil (w : World) : Calls Tryz.prog 45 #[.nilIface] w fun e w' => e = .returned (.int .i64 0) ∧ w' = w := by
  go_enter Tryz.func45, Tryz.ntmps45
  go_wp2_with (first
    | (go_at_call 93; refine (is_nil _ _).mono ?_; rintro e w2 ⟨rfl, rfl⟩))
  go_ret
  exact ⟨rfl, rfl⟩

theorem number_fault (s : ByteArray) (j : Int) (hj : j = 3 ∨ j = 4 ∨ j = 6) (w : World) :
    Calls Tryz.prog 45 #[faultV s j] w fun e w' => e = .returned (.int .i64 j) ∧ Below w.heap.size w w' := by
  rcases hj with rfl | rfl | rfl
  · go_enter Tryz.func45, Tryz.ntmps45
    go_wp2_with (first
      | (go_at_call 93; refine (is_wrapped s 3 3 true rfl _).mono ?_; rintro e w2 ⟨rfl, h2⟩))
    go_ret
    exact ⟨rfl, h2⟩
  · go_enter Tryz.func45, Tryz.ntmps45
    go_wp2_with fail
    refine (is_wrapped s 4 3 false rfl _).mono ?_
    rintro e w2 ⟨rfl, h2⟩
    go_wp2_with fail
    refine (is_wrapped s 4 4 true rfl _).mono ?_
    rintro e w3 ⟨rfl, h3⟩
    go_wp2_with fail
    go_ret
    exact ⟨rfl, h2.trans (h3.mono h2.size)⟩
  · go_enter Tryz.func45, Tryz.ntmps45
    go_wp2_with fail
    refine (is_wrapped s 6 3 false rfl _).mono ?_
    rintro e w2 ⟨rfl, h2⟩
    go_wp2_with fail
    refine (is_wrapped s 6 4 false rfl _).mono ?_
    rintro e w3 ⟨rfl, h3⟩
    go_wp2_with fail
    refine (is_wrapped s 6 6 true rfl _).mono ?_
    rintro e w4 ⟨rfl, h4⟩
    go_wp2_with fail
    go_ret
    exact ⟨rfl, (h2.trans (h3.mono h2.size)).trans (h4.mono (Nat.le_trans h2.size h3.size))⟩

theorem fit_few (s : ByteArray) (n l m : Int) (h : n < l) (w : World) :
    Calls Tryz.prog 44 #[.string s, .int .i64 n, .int .i64 l, .int .i64 m] w fun e w' => e = .returned (faultV s 3) ∧ w' = w := by
  go_enter Tryz.func44, Tryz.ntmps44
  go_wp2_with fail
  go_ret
  exact ⟨rfl, rfl⟩
theorem fit_many (s : ByteArray) (n l m : Int) (h1 : ¬ n < l) (h : m < n) (w : World) :
    Calls Tryz.prog 44 #[.string s, .int .i64 n, .int .i64 l, .int .i64 m] w fun e w' => e = .returned (faultV s 4) ∧ w' = w := by
  go_enter Tryz.func44, Tryz.ntmps44
  go_wp2_with fail
  go_ret
  exact ⟨rfl, rfl⟩
theorem fit_good (s : ByteArray) (n l m : Int) (h1 : ¬ n < l) (h : ¬ m < n) (w : World) :
    Calls Tryz.prog 44 #[.string s, .int .i64 n, .int .i64 l, .int .i64 m] w fun e w' => e = .returned .nilIface ∧ w' = w := by
  go_enter Tryz.func44, Tryz.ntmps44
  go_wp2_with fail
  go_ret
  exact ⟨rfl, rfl⟩

end Go.Proofs.YtlgmjnjhdamknaaGreat
