
/-
  slices.Chunk of bytes by two, and of bits by eight.
-/
import Derived.Test.YtcbkbdoaaaofjaaGreatIter
import Derived.Sort.QuietIn
namespace Go.Proofs.YtcbkbdoaaaofjaaGreat
open Go.RowKit Go.Shelf

attribute [local go_sem] Oper.semAt_some

/-- Part k of length at most m of a slice of length n at the address b, off. -/
def part (b off m n k : Nat) : Value := .slice (some ⟨b, off + m * k, none⟩) (min m (n - m * k)) (min m (n - m * k))

section
variable {P : Program} {t e : TypeId}
theorem slice_from (ht : P.underlying t = some (.slice (P.elem t))) (hs : ∀ w : World, (sizeOf (P.elem t)).run P w = .ok 1 w) (a : Option Addr) (len cap i : Nat) (h : i ≤ len) :
    ∃ X, ∀ w, (Instr.slice t (.slice a len cap) (some (.int .i64 (i : Int))) none none).run P w = .ok (.slice X (len - i) (cap - i)) w := by
  refine ⟨if cap = i then a else a.map (·.add i), fun w => ?_⟩
  rw [run_slice_l w t a len cap ht .i64 i (by omega) (by omega), hs]
  simp [Result.andThen, sliced]
theorem slice_part (w : World) (ht : P.underlying t = some (.slice (P.elem t))) (hs : ∀ w : World, (sizeOf (P.elem t)).run P w = .ok 1 w) (b off len cap i c : Nat) (h : i + c ≤ cap) (h0 : 0 < c) :
    (Instr.slice t (.slice (some ⟨b, off, none⟩) len cap) (some (.int .i64 (i : Int))) (some (.int .i64 ((i + c : Nat) : Int))) (some (.int .i64 ((i + c : Nat) : Int)))).run P w = .ok (.slice (some ⟨b, off + i, none⟩) c c) w := by
  have hadd : (⟨b, off, none⟩ : Addr).add i = ⟨b, off + i, none⟩ := by unfold Addr.add; split <;> simp_all
  rw [run_slice_lhm w t _ len cap ht .i64 .i64 .i64 i (i + c : Nat) (i + c : Nat) (by omega) (by omega) (by omega) (by omega), hs]
  simp [Result.andThen, sliced, hadd]
  omega
end

/-- What lay below n₀ lies as it lay, and two blocks besides. -/
def KeepsTwo (n₀ x y : Nat) (A B : World) : Prop := Below n₀ A B ∧ B.heap[x]? = A.heap[x]? ∧ B.heap[y]? = A.heap[y]?
theorem KeepsTwo.refl (n₀ x y : Nat) (A : World) : KeepsTwo n₀ x y A A := ⟨Below.refl _ _, rfl, rfl⟩
theorem KeepsTwo.drewN (n₀ x y : Nat) (A : World) (q : Nat) : KeepsTwo n₀ x y A (A.drewN q) := ⟨drewN_below (Below.refl _ _) q, rfl, rfl⟩
theorem KeepsTwo.trans {n₀ x y : Nat} {A B C : World} (h : KeepsTwo n₀ x y A B) (k : KeepsTwo n₀ x y B C) : KeepsTwo n₀ x y A C := ⟨h.1.trans k.1, k.2.1.trans h.2.1, k.2.2.trans h.2.2⟩
theorem KeepsTwo.cell1 {n₀ x y : Nat} {A B : World} (h : KeepsTwo n₀ x y A B) : B.cell? ⟨x, 0, none⟩ = A.cell? ⟨x, 0, none⟩ := by simp only [World.cell?, h.2.1]
theorem KeepsTwo.cell2 {n₀ x y : Nat} {A B : World} (h : KeepsTwo n₀ x y A B) : B.cell? ⟨y, 0, none⟩ = A.cell? ⟨y, 0, none⟩ := by simp only [World.cell?, h.2.2]
theorem KeepsTwo.put {n₀ x y : Nat} {w : World} (hn : n₀ ≤ w.heap.size) (hx : x < w.heap.size) (hy : y < w.heap.size) (W : World) (l : Nat) (o o' : Obj) (hl : w.heap.size ≤ l) (h : W.heap[l]? = some o) (h1 : o.isCells = false) (h2 : o.isWalk = false) : KeepsTwo n₀ x y W (W.putObj l o') :=
  ⟨belowK_b hn W l o o' hl h h1 h2, World.putObj_heap_other (by omega), World.putObj_heap_other (by omega)⟩

set_option maxRecDepth 100000 in
set_option maxHeartbeats 2000000 in
theorem chunk1_in (n : Nat) (hn : 1 ≤ n) {α : Type} (enc : α → Value) (l Bs Bm n₀ b off len cap : Nat) (hlc : len ≤ cap) (zs : List α) (hmax : len ≤ 100000)
    (hz1 : zs.length = (len + 1) / 2) (hz2 : ∀ k (h : k < zs.length), enc zs[k] = part b off 2 len k) (J Jx : List α → World → Prop)
    (hY : ∀ pre x W, J pre W → pre.length < zs.length → YieldAt Fence.wide (n - 1) Tryz.prog l #[enc x] W fun e W' =>
      (e = .returned (.bool true) ∧ J (pre ++ [x]) W' ∧ KeepsTwo n₀ Bs Bm W W') ∨ (e = .returned (.bool false) ∧ Jx (pre ++ [x]) W'))
    (W : World) (hBs : W.cell? ⟨Bs, 0, none⟩ = some (.slice (some ⟨b, off, none⟩) len cap)) (hBm : W.cell? ⟨Bm, 0, none⟩ = some (.int .i64 2)) (hJd : ∀ pre W q, J pre W → J pre (World.drewN W q)) (h0 : J [] W) :
    CallsIn Fence.wide n Tryz.prog 141 #[.func (.yield l) #[] #[], .pointer (some ⟨Bs, 0, none⟩), .pointer (some ⟨Bm, 0, none⟩)] W fun e W' => (∃ v, e = .returned v) ∧
      ((∃ ys, ys = zs ∧ J ys W') ∨ (∃ pre, pre <+: zs ∧ Jx pre W')) := by
  have hs1 := fun (a : Option Addr) (len cap i : Nat) (h : i ≤ len) => slice_from (P := Tryz.prog) (t := 31) (by kernel_rfl) (fun w => by kernel_rfl) a len cap i h
  refine callsIn_of_wp Tryz.func141 rfl trivial ?_ rfl
  simp only [Tryz.ntmps141, List.size_toArray, List.length_cons, List.length_nil, Nat.reduceAdd, Nat.reduceSub, Array.replicate_succ, Array.replicate_zero, List.push_toArray, List.append_toArray, List.nil_append, List.cons_append]
  gi_wp2
  gi_loopw [4] (fun i wr => ∃ k : Nat, k ≤ zs.length ∧ i = .int .i64 ((2 * k : Nat) : Int) ∧ J (zs.take k) wr ∧ KeepsTwo n₀ Bs Bm W wr)
    (fun i _ => len + 2 - (intOf i).toNat)
  case atStart => exact ⟨0, Nat.zero_le _, rfl, h0, KeepsTwo.refl _ _ _ _⟩
  case round =>
    obtain ⟨k, hk, rfl, hJs, hnx⟩ := hrel
    have hcs := hnx.cell1.trans hBs
    have hcm := hnx.cell2.trans hBm
    by_cases hlt : k < zs.length
    · have hi : 2 * k < len := by omega
      obtain ⟨X, hX⟩ := hs1 (some ⟨b, off, none⟩) len cap (2 * k) (by omega)
      obtain ⟨c, hc⟩ : ∃ c : Nat, min 2 (len - 2 * k) = c := ⟨_, rfl⟩
      have hmin : min (2 : Int) ((len - 2 * k : Nat) : Int) = (c : Int) := by omega
      gi_wp2
      gi_quiet (fail)
      obtain ⟨fn, tmps, assign, body, hy, hR⟩ := hY _ zs[k] (wr.drewN nq) (hJd _ _ nq hJs) (by rw [List.length_take]; omega)
      rw [← List.take_succ_eq_append_getElem hlt] at hR
      rw [hz2 k hlt] at hy
      unfold part at hy
      rw [hc] at hy
      gi_wp2
      refine hR.mono ?_
      rintro e W3 (⟨rfl, hJ3, hk3⟩ | ⟨rfl, hJx3⟩)
      · have hk4 : KeepsTwo n₀ Bs Bm wr W3 := (KeepsTwo.drewN n₀ Bs Bm wr nq).trans hk3
        have hcm3 := hk4.cell2.trans hcm
        gi_wp2
        go_roundw
        case rel => exact ⟨k + 1, by omega, by go_num, hJ3, hnx.trans hk4⟩
        case measure => simp [intOf]; omega
      · gi_wp2
        refine bodyPost_ret (results_none rfl _ _ _) rfl ?_
        exact ⟨⟨_, rfl⟩, .inr ⟨_, List.take_prefix _ _, hJx3⟩⟩
    · obtain rfl : k = zs.length := by omega
      rw [List.take_length] at hJs
      gi_wp2
      go_end0
      exact ⟨⟨_, rfl⟩, .inl ⟨_, rfl, hJs⟩⟩

set_option maxRecDepth 100000 in
set_option maxHeartbeats 1000000 in
theorem chunk1_nil_in (n : Nat) {α : Type} (l Bs Bm cap : Nat) (A : Option Addr) (J : List α → World → Prop) (W : World) (hBs : W.cell? ⟨Bs, 0, none⟩ = some (.slice A 0 cap)) (h0 : J [] W) :
    CallsIn Fence.wide n Tryz.prog 141 #[.func (.yield l) #[] #[], .pointer (some ⟨Bs, 0, none⟩), .pointer (some ⟨Bm, 0, none⟩)] W fun e W' => (∃ v, e = .returned v) ∧ J [] W' := by
  refine callsIn_of_wp Tryz.func141 rfl trivial ?_ rfl
  simp only [Tryz.ntmps141, List.size_toArray, List.length_cons, List.length_nil, Nat.reduceAdd, Nat.reduceSub, Array.replicate_succ, Array.replicate_zero, List.push_toArray, List.append_toArray, List.nil_append, List.cons_append]
  gi_wp2
  gi_loopw [4] (fun i wr => i = .int .i64 0 ∧ J [] wr ∧ wr.cell? ⟨Bs, 0, none⟩ = some (.slice A 0 cap)) (fun _ _ => 0)
  case atStart => exact ⟨rfl, h0, hBs⟩
  case round =>
    obtain ⟨rfl, hJs, hBs'⟩ := hrel
    gi_wp2
    go_end0
    exact ⟨⟨_, rfl⟩, hJs⟩

set_option maxHeartbeats 1000000 in
/-- slices.Chunk(s, m): both are boxed; the function value captures the boxes. -/
theorem chunk_any (a : Option Addr) (len cap : Nat) (w : World) :
    Calls Tryz.prog 136 #[.slice a len cap, .int .i64 2] w fun e w' => e = .returned (.func (.func 141) #[] #[.pointer (some ⟨w.heap.size, 0, none⟩), .pointer (some ⟨w.heap.size + 1, 0, none⟩)]) ∧ w' = (w.alloc (.cells #[.slice a len cap] 31)).alloc (.cells #[.int .i64 2] 3) := by
  go_enter Tryz.func136, Tryz.ntmps136
  go_wp2
  go_ret
  exact ⟨rfl, rfl⟩

theorem chunk_stops (n : Nat) (hn : 1 ≤ n) {α : Type} (enc : α → Value) (Bs Bm n₀ len cap : Nat) (hlc : len ≤ cap) (A : Option Addr) (zs : List α) (hmax : len ≤ 100000) (w : World) (hBs : Bs < w.heap.size) (hBm : Bm < w.heap.size)
    (hcs : w.cell? ⟨Bs, 0, none⟩ = some (.slice A len cap)) (hcm : w.cell? ⟨Bm, 0, none⟩ = some (.int .i64 2))
    (hz1 : zs.length = (len + 1) / 2) (hA : 0 < len → ∃ b off, A = some ⟨b, off, none⟩ ∧ ∀ k (h : k < zs.length), enc zs[k] = part b off 2 len k) :
    SeqStopsK Fence.wide n Tryz.prog 141 #[.pointer (some ⟨Bs, 0, none⟩), .pointer (some ⟨Bm, 0, none⟩)] (fun x : α => #[enc x]) (KeepsTwo n₀ Bs Bm) (fun ys => ys = zs) (fun pre => pre <+: zs) zs.length w := fun l J Jx W hW hJ _ hY h0' => by
  have hcs' := (hW.cell (p := ⟨Bs, 0, none⟩) hBs).trans hcs
  have hcm' := (hW.cell (p := ⟨Bm, 0, none⟩) hBm).trans hcm
  rcases Nat.eq_zero_or_pos len with rfl | hz
  · obtain rfl : zs = [] := List.eq_nil_of_length_eq_zero (by omega)
    exact (chunk1_nil_in n l Bs Bm cap A J W hcs' h0').mono fun e W' ⟨he, hj⟩ => ⟨he, .inl ⟨_, rfl, hj⟩⟩
  · obtain ⟨b, off, rfl, hz2⟩ := hA hz
    exact chunk1_in n hn enc l Bs Bm _ b off len cap hlc zs hmax hz1 hz2 J Jx hY W hcs' hcm' (fun pre W1 q h => hJ pre W1 _ none h ⟨rfl, rfl, rfl, Nat.le_refl _, fun _ _ _ => rfl⟩ (fun r e => by cases e)) h0'

set_option maxRecDepth 100000 in
set_option maxHeartbeats 2000000 in
theorem chunk8_in (n : Nat) (hn : 1 ≤ n) {α : Type} (enc : α → Value) (l Bs Bm n₀ b off len cap : Nat) (hlc : len ≤ cap) (zs : List α) (hmax : len ≤ 100000)
    (hz1 : zs.length = (len + 7) / 8) (hz2 : ∀ k (h : k < zs.length), enc zs[k] = part b off 8 len k) (J Jx : List α → World → Prop)
    (hY : ∀ pre x W, J pre W → pre.length < zs.length → YieldAt Fence.wide (n - 1) Tryz.prog l #[enc x] W fun e W' =>
      (e = .returned (.bool true) ∧ J (pre ++ [x]) W' ∧ Below n₀ W W') ∨ (e = .returned (.bool false) ∧ Jx (pre ++ [x]) W'))
    (W : World) (hBs : W.cell? ⟨Bs, 0, none⟩ = some (.slice (some ⟨b, off, none⟩) len cap)) (hBm : W.cell? ⟨Bm, 0, none⟩ = some (.int .i64 8)) (hBsn : Bs < n₀) (hBmn : Bm < n₀) (hJd : ∀ pre W q, J pre W → J pre (World.drewN W q)) (h0 : J [] W) :
    CallsIn Fence.wide n Tryz.prog 125 #[.func (.yield l) #[] #[], .pointer (some ⟨Bs, 0, none⟩), .pointer (some ⟨Bm, 0, none⟩)] W fun e W' => (∃ v, e = .returned v) ∧
      ((∃ ys, ys = zs ∧ J ys W') ∨ (∃ pre, pre <+: zs ∧ Jx pre W')) := by
  have hs1 := fun (a : Option Addr) (len cap i : Nat) (h : i ≤ len) => slice_from (P := Tryz.prog) (t := 23) (by kernel_rfl) (fun w => by kernel_rfl) a len cap i h
  refine callsIn_of_wp Tryz.func125 rfl trivial ?_ rfl
  simp only [Tryz.ntmps125, List.size_toArray, List.length_cons, List.length_nil, Nat.reduceAdd, Nat.reduceSub, Array.replicate_succ, Array.replicate_zero, List.push_toArray, List.append_toArray, List.nil_append, List.cons_append]
  gi_wp2
  gi_loopw [4] (fun i wr => ∃ k : Nat, k ≤ zs.length ∧ i = .int .i64 ((8 * k : Nat) : Int) ∧ J (zs.take k) wr ∧ Below n₀ W wr)
    (fun i _ => len + 8 - (intOf i).toNat)
  case atStart => exact ⟨0, Nat.zero_le _, rfl, h0, Below.refl _ _⟩
  case round =>
    obtain ⟨k, hk, rfl, hJs, hnx⟩ := hrel
    have hcs := (hnx.cell (p := ⟨Bs, 0, none⟩) hBsn).trans hBs
    have hcm := (hnx.cell (p := ⟨Bm, 0, none⟩) hBmn).trans hBm
    by_cases hlt : k < zs.length
    · have hi : 8 * k < len := by omega
      obtain ⟨X, hX⟩ := hs1 (some ⟨b, off, none⟩) len cap (8 * k) (by omega)
      obtain ⟨c, hc⟩ : ∃ c : Nat, min 8 (len - 8 * k) = c := ⟨_, rfl⟩
      have hmin : min (8 : Int) ((len - 8 * k : Nat) : Int) = (c : Int) := by omega
      gi_wp2
      gi_quiet (fail)
      obtain ⟨fn, tmps, assign, body, hy, hR⟩ := hY _ zs[k] (wr.drewN nq) (hJd _ _ nq hJs) (by rw [List.length_take]; omega)
      rw [← List.take_succ_eq_append_getElem hlt] at hR
      rw [hz2 k hlt] at hy
      unfold part at hy
      rw [hc] at hy
      gi_wp2
      refine hR.mono ?_
      rintro e W3 (⟨rfl, hJ3, hk3⟩ | ⟨rfl, hJx3⟩)
      · have hk4 : Below n₀ wr W3 := (drewN_below (Below.refl n₀ wr) nq).trans hk3
        have hcm3 := (hk4.cell (p := ⟨Bm, 0, none⟩) hBmn).trans hcm
        gi_wp2
        go_roundw
        case rel => exact ⟨k + 1, by omega, by go_num, hJ3, hnx.trans hk4⟩
        case measure => simp [intOf]; omega
      · gi_wp2
        refine bodyPost_ret (results_none rfl _ _ _) rfl ?_
        exact ⟨⟨_, rfl⟩, .inr ⟨_, List.take_prefix _ _, hJx3⟩⟩
    · obtain rfl : k = zs.length := by omega
      rw [List.take_length] at hJs
      gi_wp2
      go_end0
      exact ⟨⟨_, rfl⟩, .inl ⟨_, rfl, hJs⟩⟩

set_option maxRecDepth 100000 in
set_option maxHeartbeats 1000000 in
theorem chunk8_nil_in (n : Nat) {α : Type} (l Bs Bm cap : Nat) (A : Option Addr) (J : List α → World → Prop) (W : World) (hBs : W.cell? ⟨Bs, 0, none⟩ = some (.slice A 0 cap)) (h0 : J [] W) :
    CallsIn Fence.wide n Tryz.prog 125 #[.func (.yield l) #[] #[], .pointer (some ⟨Bs, 0, none⟩), .pointer (some ⟨Bm, 0, none⟩)] W fun e W' => (∃ v, e = .returned v) ∧ J [] W' := by
  refine callsIn_of_wp Tryz.func125 rfl trivial ?_ rfl
  simp only [Tryz.ntmps125, List.size_toArray, List.length_cons, List.length_nil, Nat.reduceAdd, Nat.reduceSub, Array.replicate_succ, Array.replicate_zero, List.push_toArray, List.append_toArray, List.nil_append, List.cons_append]
  gi_wp2
  gi_loopw [4] (fun i wr => i = .int .i64 0 ∧ J [] wr ∧ wr.cell? ⟨Bs, 0, none⟩ = some (.slice A 0 cap)) (fun _ _ => 0)
  case atStart => exact ⟨rfl, h0, hBs⟩
  case round =>
    obtain ⟨rfl, hJs, hBs'⟩ := hrel
    gi_wp2
    go_end0
    exact ⟨⟨_, rfl⟩, hJs⟩

set_option maxHeartbeats 1000000 in
/-- slices.Chunk(s, m): both are boxed; the function value captures the boxes. -/
theorem chunkb_any (a : Option Addr) (len cap : Nat) (w : World) :
    Calls Tryz.prog 101 #[.slice a len cap, .int .i64 8] w fun e w' => e = .returned (.func (.func 125) #[] #[.pointer (some ⟨w.heap.size, 0, none⟩), .pointer (some ⟨w.heap.size + 1, 0, none⟩)]) ∧ w' = (w.alloc (.cells #[.slice a len cap] 23)).alloc (.cells #[.int .i64 8] 3) := by
  go_enter Tryz.func101, Tryz.ntmps101
  go_wp2
  go_ret
  exact ⟨rfl, rfl⟩

theorem chunkb_stops (n : Nat) (hn : 1 ≤ n) {α : Type} (enc : α → Value) (Bs Bm n₀ len cap : Nat) (hlc : len ≤ cap) (A : Option Addr) (zs : List α) (hmax : len ≤ 100000) (w : World) (hBs : Bs < n₀) (hBm : Bm < n₀) (hn₀ : n₀ ≤ w.heap.size)
    (hcs : w.cell? ⟨Bs, 0, none⟩ = some (.slice A len cap)) (hcm : w.cell? ⟨Bm, 0, none⟩ = some (.int .i64 8))
    (hz1 : zs.length = (len + 7) / 8) (hA : 0 < len → ∃ b off, A = some ⟨b, off, none⟩ ∧ ∀ k (h : k < zs.length), enc zs[k] = part b off 8 len k) :
    SeqStopsK Fence.wide n Tryz.prog 125 #[.pointer (some ⟨Bs, 0, none⟩), .pointer (some ⟨Bm, 0, none⟩)] (fun x : α => #[enc x]) (Below n₀) (fun ys => ys = zs) (fun pre => pre <+: zs) zs.length w := fun l J Jx W hW hJ _ hY h0' => by
  have hcs' := (hW.cell (p := ⟨Bs, 0, none⟩) (Nat.lt_of_lt_of_le hBs hn₀)).trans hcs
  have hcm' := (hW.cell (p := ⟨Bm, 0, none⟩) (Nat.lt_of_lt_of_le hBm hn₀)).trans hcm
  rcases Nat.eq_zero_or_pos len with rfl | hz
  · obtain rfl : zs = [] := List.eq_nil_of_length_eq_zero (by omega)
    exact (chunk8_nil_in n l Bs Bm cap A J W hcs' h0').mono fun e W' ⟨he, hj⟩ => ⟨he, .inl ⟨_, rfl, hj⟩⟩
  · obtain ⟨b, off, rfl, hz2⟩ := hA hz
    exact chunk8_in n hn enc l Bs Bm _ b off len cap hlc zs hmax hz1 hz2 J Jx hY W hcs' hcm' hBs hBm (fun pre W1 q h => hJ pre W1 _ none h ⟨rfl, rfl, rfl, Nat.le_refl _, fun _ _ _ => rfl⟩ (fun r e => by cases e)) h0'

end Go.Proofs.YtcbkbdoaaaofjaaGreat
