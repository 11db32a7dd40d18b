/-
  errors.Is over a number of api's own type, bare or wrapped once.
-/
import Derived.Test.YtlabjopmimnifaaRtu
import Derived.LaidEql
import Derived.Stop.Asserts
import Derived.RowKitTokens
namespace Go.Proofs.Ytlabjopmimnifaa
open Go.RowKit Go.Extern.Stop Go.Stop Go.Extern

theorem callTypeOf (v : Value) (w : World) : (callFunc 26 #[.iface 26 v]).run Try.prog w = .ok (.value (.iface 64 (.agg #[.pointer (some ⟨0, 26, none⟩)]))) w := by kernel_rfl
theorem findComparable (v : Value) (w : World) : (Go.method 208 64 v "Comparable").run Try.prog w = .ok (53, v) w := by kernel_rfl
theorem callComparable (w : World) : (callFunc 53 #[.agg #[.pointer (some ⟨0, 26, none⟩)]]).run Try.prog w = .ok (.value (.bool true)) w := by kernel_rfl
theorem noIsE (v : Value) (xT : TypeId) (w : World) : (Instr.typeAssert (.iface 26 v) xT 66 true).run Try.prog w = .ok (.tuple #[.nilIface, .bool false]) w := run_typeAssert_lacksB Try.underlying66 (by kernel_rfl) (by kernel_rfl) v xT w
theorem noUnwrapE (v : Value) (xT : TypeId) (w : World) : (Instr.typeAssert (.iface 26 v) xT 69 true).run Try.prog w = .ok (.tuple #[.nilIface, .bool false]) w := run_typeAssert_lacksB Try.underlying69 (by kernel_rfl) (by kernel_rfl) v xT w
theorem noUnwrapsE (v : Value) (xT : TypeId) (w : World) : (Instr.typeAssert (.iface 26 v) xT 71 true).run Try.prog w = .ok (.tuple #[.nilIface, .bool false]) w := run_typeAssert_lacksB Try.underlying71 (by kernel_rfl) (by kernel_rfl) v xT w
theorem noIsW (v : Value) (xT : TypeId) (w : World) : (Instr.typeAssert (.iface 53 v) xT 66 true).run Try.prog w = .ok (.tuple #[.nilIface, .bool false]) w := run_typeAssert_lacksB Try.underlying66 (by kernel_rfl) (by kernel_rfl) v xT w
theorem hasUnwrapW (v : Value) (xT : TypeId) (w : World) : (Instr.typeAssert (.iface 53 v) xT 69 true).run Try.prog w = .ok (.tuple #[.iface 53 v, .bool true]) w := run_typeAssert_hasB Try.underlying69 (by kernel_rfl) v xT w
theorem findUnwrap (v : Value) (w : World) : (Go.method 208 53 v "Unwrap").run Try.prog w = .ok (49, v) w := by kernel_rfl
theorem isComp : (Try.prog.info? 26).map (·.comparable) = some true := by kernel_rfl
theorem eql_num (j k : Int) (w : World) : (binOp .eql 43 (.iface 26 (.int .i64 j)) (.iface 26 (.int .i64 k))).run Try.prog w = .ok (.bool (j == k)) w := by
  obtain ⟨i, hi, hcmp⟩ := Option.map_eq_some_iff.1 isComp
  have h : ∀ d : Nat, (Op.equalIn (d + 1 + 1) 43 (.iface 26 (.int .i64 j)) (.iface 26 (.int .i64 k))).run Try.prog w = .ok (j == k) w := fun d => by
    simp [Op.equalIn, run_underlying Try.underlying43, run_underlying Try.underlying26, typeInfo, hi, hcmp]
  simp [binOp, Op.equal, Op.maxDepth, h]
theorem is_nil (k : Int) (w : World) : Calls Try.prog 22 #[.nilIface, .iface 26 (.int .i64 k)] w fun e w' => e = .returned (.bool false) ∧ w' = w := by
  have hn := run_eql_iface_nil_left (P := Try.prog) w 26 (.int .i64 k) Try.underlying43
  go_enter Try.func22, Try.ntmps22
  go_wp2
  go_ret
  exact ⟨rfl, rfl⟩
/-- errors.Is(e, x), e a wrapped number. -/
theorem is_wrapped (s : ByteArray) (j k : Int) (b : Bool) (hb : (j == k) = b) (w : World) :
    Calls Try.prog 22 #[.iface 53 (.agg #[.string s, .iface 26 (.int .i64 j)]), .iface 26 (.int .i64 k)] w fun e w' => e = .returned (.bool b) ∧ Below w.heap.size w w' := by
  have tT := callTypeOf
  have mC := findComparable
  have cT := callComparable
  have mU := findUnwrap
  have hjk := fun w => eql_num j k w
  rw [hb] at hjk
  clear hb
  have nE := noIsE
  have uE := noUnwrapE
  have vE := noUnwrapsE
  have nW := noIsW
  have uW := hasUnwrapW
  have hty := run_eql_iface_types (P := Try.prog) 53 26 (.agg #[.string s, .iface 26 (.int .i64 j)]) (.int .i64 k) Try.underlying43 (by decide)
  go_enter Try.func22, Try.ntmps22
  go_wp2
  refine wp_loop_rounds 2 ?_
  rw [rounds_succ]
  go_wp2
  rw [rounds_succ]
  cases b with
  | true =>
    go_wp2
    go_ret
    exact ⟨rfl, (Below.refl _ _).alloc (Nat.le_refl _) _⟩
  | false =>
    go_wp2
    go_ret
    exact ⟨rfl, (Below.refl _ _).alloc (Nat.le_refl _) _⟩
end Go.Proofs.Ytlabjopmimnifaa
