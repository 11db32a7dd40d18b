
/-
  The landed ask: layoutOf, of any code; what the layouts' loops make of a request (the mathematics).
-/
import Derived.Test.YtaembpncoicdpaaLz
namespace Go.Proofs.Ytaembpncoicdpaa
open Go.RowKit Go.Shelf

set_option maxRecDepth 100000 in
set_option maxHeartbeats 1000000 in
theorem lay_none (c : Int) (hc : c ∉ Ak.codes) (w : World) : Calls Try.prog 14 #[.int .i64 c] w (LayPost w c) := by
  simp only [Ak.codes, List.mem_cons, List.not_mem_nil, or_false, not_or] at hc
  obtain ⟨n1, n2, n3, n4, n5, n6, n15, n16, n22, n23, n43⟩ := hc
  have HL : Hid (layOf c = none) := Lib.hid (by unfold layOf; simp only [n1, n2, n3, n4, n5, n6, n15, n16, n22, n23, n43, or_self, if_false])
  have e1 : (c == 1) = false := beq_eq_false_iff_ne.2 n1
  have e2 : (c == 2) = false := beq_eq_false_iff_ne.2 n2
  have e3 : (c == 3) = false := beq_eq_false_iff_ne.2 n3
  have e4 : (c == 4) = false := beq_eq_false_iff_ne.2 n4
  have e5 : (c == 5) = false := beq_eq_false_iff_ne.2 n5
  have e6 : (c == 6) = false := beq_eq_false_iff_ne.2 n6
  have e15 : (c == 15) = false := beq_eq_false_iff_ne.2 n15
  have e16 : (c == 16) = false := beq_eq_false_iff_ne.2 n16
  have e22 : (c == 22) = false := beq_eq_false_iff_ne.2 n22
  have e23 : (c == 23) = false := beq_eq_false_iff_ne.2 n23
  have e43 : (c == 43) = false := beq_eq_false_iff_ne.2 n43
  clear n1 n2 n3 n4 n5 n6 n15 n16 n22 n23 n43
  go_enter Try.func14, Try.ntmps14
  go_wp2_with fail
  refine bodyPost_ret_by (v := .tuple #[.agg #[.slice none 0 0, .slice none 0 0, .nilFunc], .bool false]) (by simp [results, Try.f14, go_sem]) rfl ?_
  refine ⟨?_, ?_⟩
  · exact ((Below.refl _ _).alloc (Nat.le_refl _) _).alloc (by simp) _
  · rw [HL.out]

theorem layoutOf_any (c : Int) (w : World) : Calls Try.prog 14 #[.int .i64 c] w (LayPost w c) := by
  by_cases hc : c ∈ Ak.codes
  · simp only [Ak.codes, List.mem_cons, List.not_mem_nil, or_false] at hc
    rcases hc with rfl | rfl | rfl | rfl | rfl | rfl | rfl | rfl | rfl | rfl | rfl
    · exact lay1 w
    · exact lay2 w
    · exact lay3 w
    · exact lay4 w
    · exact lay5 w
    · exact lay6 w
    · exact lay15 w
    · exact lay16 w
    · exact lay22 w
    · exact lay23 w
    · exact lay43 w
  · exact lay_none c hc w

namespace LK
def dropped (ps : List PK) (a : Ask) : Ask := ps.foldl (fun a p => p.drop a) a
def fits (L : LK) (a : Ask) : Bool := L.parts.all (fun p => p.fits a) && Ak.same (dropped L.parts a) { Ak.zero with code := a.code }
def outs (ps : List PK) (a : Ask) : List UInt8 := ps.flatMap fun p => p.out a
def reads : List PK → List UInt8 → Ask → Option (List UInt8 × Ask)
  | [], b, a => some (b, a)
  | p :: ps, b, a => match p.read b a with | none => none | some (r, a') => reads ps r a'
def readAll (L : LK) (b : List UInt8) : Option Ask :=
  if L.begin_.isPrefixOf b then (match reads L.parts (b.drop L.begin_.length) { Ak.zero with code := ((L.begin_.getD 0 0).toNat : Nat) } with | some ([], a) => some a | _ => none) else none
theorem dropped_take (ps : List PK) (a : Ask) (j : Nat) (h : j < ps.length) : dropped (ps.take (j + 1)) a = ps[j].drop (dropped (ps.take j) a) := by
  unfold dropped
  rw [List.take_succ_eq_append_getElem h, List.foldl_append]
  rfl
theorem outs_take (ps : List PK) (a : Ask) (j : Nat) (h : j < ps.length) : outs (ps.take (j + 1)) a = outs (ps.take j) a ++ ps[j].out a := by
  unfold outs
  rw [List.take_succ_eq_append_getElem h, List.flatMap_append]
  simp
theorem all_take (ps : List PK) (a : Ask) (j : Nat) (h : j < ps.length) : (ps.take (j + 1)).all (fun p => p.fits a) = ((ps.take j).all (fun p => p.fits a) && ps[j].fits a) := by
  rw [List.take_succ_eq_append_getElem h, List.all_append]
  simp
theorem all_not (ps : List PK) (a : Ask) (j : Nat) (h : j < ps.length) (hf : ps[j].fits a = false) : ps.all (fun p => p.fits a) = false := by
  rw [List.all_eq_false]
  exact ⟨_, List.getElem_mem h, by rw [hf]; simp⟩
theorem reads_cons (p : PK) (ps : List PK) (b : List UInt8) (a : Ask) : reads (p :: ps) b a = match p.read b a with | none => none | some (r, a') => reads ps r a' := rfl
theorem reads_append (ps qs : List PK) (b : List UInt8) (a : Ask) : reads (ps ++ qs) b a = match reads ps b a with | none => none | some (r, a') => reads qs r a' := by
  induction ps generalizing b a with
  | nil => rfl
  | cons p ps ih =>
    rw [List.cons_append, reads_cons, reads_cons]
    cases p.read b a with
    | none => rfl
    | some x => exact ih _ _
theorem reads_take (ps : List PK) (b : List UInt8) (a : Ask) (j : Nat) (h : j < ps.length) : reads (ps.take (j + 1)) b a = match reads (ps.take j) b a with | none => none | some (r, a') => ps[j].read r a' := by
  rw [List.take_succ_eq_append_getElem h, reads_append]
  cases reads (ps.take j) b a with
  | none => rfl
  | some x =>
    obtain ⟨r, a'⟩ := x
    show reads [ps[j]] r a' = ps[j].read r a'
    rw [reads_cons]
    cases ps[j].read r a' with
    | none => rfl
    | some y => rfl
theorem reads_none (ps : List PK) (b : List UInt8) (a : Ask) (j : Nat) (h : reads (ps.take j) b a = none) : reads ps b a = none := by
  rw [← List.take_append_drop j ps, reads_append, h]
end LK
end Go.Proofs.Ytaembpncoicdpaa
