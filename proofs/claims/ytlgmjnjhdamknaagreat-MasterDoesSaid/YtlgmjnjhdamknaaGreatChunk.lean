
/- A part of the proof of the law MasterDoes. -/
import Derived.Test.YtlgmjnjhdamknaaGreatMem
import Derived.Test.YtlgmjnjhdamknaaGreatRow
import Derived.Sort.QuietIn
namespace Go.Proofs.YtlgmjnjhdamknaaGreat
open Go.RowKit Go.Shelf

attribute [local go_sem] Oper.semAt_some

def part (b off m n k : Nat) : Value := .slice (some ⟨b, off + m * k, none⟩) (min m (n - m * k)) (min m (n - m * k))

section
variable {P : Program} {t e : TypeId}
theorem slice_from (ht : P.underlying t = some (.slice (P.elem t))) (hs : ∀ w : World, (sizeOf (P.elem t)).run P w = .ok 1 w) (a : Option Addr) (len cap i : Nat) (h : i ≤ len) :
    ∃ X, ∀ w, (Instr.slice t (.slice a len cap) (some (.int .i64 (i : Int))) none none).run P w = .ok (.slice X (len - i) (cap - i)) w := by
  refine ⟨if cap = i then a else a.map (·.add i), fun w => ?_⟩
  rw [run_slice_l w t a len cap ht .i64 i (by omega) (by omega), hs]
  simp [Result.andThen, sliced]
end

def KeepsTwo (n₀ x y : Nat) (A B : World) : Prop := Below n₀ A B ∧ B.heap[x]? = A.heap[x]? ∧ B.heap[y]? = A.heap[y]?
theorem KeepsTwo.refl (n₀ x y : Nat) (A : World) : KeepsTwo n₀ x y A A := ⟨Below.refl _ _, rfl, rfl⟩
theorem KeepsTwo.drewN (n₀ x y : Nat) (A : World) (q : Nat) : KeepsTwo n₀ x y A (A.drewN q) := ⟨drewN_below (Below.refl _ _) q, rfl, rfl⟩
theorem KeepsTwo.trans {n₀ x y : Nat} {A B C : World} (h : KeepsTwo n₀ x y A B) (k : KeepsTwo n₀ x y B C) : KeepsTwo n₀ x y A C := ⟨h.1.trans k.1, k.2.1.trans h.2.1, k.2.2.trans h.2.2⟩
theorem KeepsTwo.cell1 {n₀ x y : Nat} {A B : World} (h : KeepsTwo n₀ x y A B) : B.cell? ⟨x, 0, none⟩ = A.cell? ⟨x, 0, none⟩ := by simp only [World.cell?, h.2.1]
theorem KeepsTwo.cell2 {n₀ x y : Nat} {A B : World} (h : KeepsTwo n₀ x y A B) : B.cell? ⟨y, 0, none⟩ = A.cell? ⟨y, 0, none⟩ := by simp only [World.cell?, h.2.2]
theorem KeepsTwo.put {n₀ x y : Nat} {w : World} (hn : n₀ ≤ w.heap.size) (hx : x < w.heap.size) (hy : y < w.heap.size) (W : World) (l : Nat) (o o' : Obj) (hl : w.heap.size ≤ l) (h : W.heap[l]? = some o) (h1 : o.isCells = false) (h2 : o.isWalk = false) : KeepsTwo n₀ x y W (W.putObj l o') :=
  ⟨belowK_b hn W l o o' hl h h1 h2, World.putObj_heap_other (by omega), World.putObj_heap_other (by omega)⟩

set_option maxRecDepth 100000 in
set_option maxHeartbeats 2000000 in
theorem chunk1_in (n : Nat) (hn : 1 ≤ n) {α : Type} (enc : α → Value) (l Bs Bm n₀ b off len cap : Nat) (hlc : len ≤ cap) (zs : List α) (hmax : len ≤ 100000)
    (hz1 : zs.length = (len + 1) / 2) (hz2 : ∀ k (h : k < zs.length), enc zs[k] = part b off 2 len k) (J Jx : List α → World → Prop)
    (hY : ∀ pre x W, J pre W → pre.length < zs.length → YieldAt Fence.wide (n - 1) Tryz.prog l #[enc x] W fun e W' =>
      (e = .returned (.bool true) ∧ J (pre ++ [x]) W' ∧ KeepsTwo n₀ Bs Bm W W') ∨ (e = .returned (.bool false) ∧ Jx (pre ++ [x]) W'))
    (W : World) (hBs : W.cell? ⟨Bs, 0, none⟩ = some (.slice (some ⟨b, off, none⟩) len cap)) (hBm : W.cell? ⟨Bm, 0, none⟩ = some (.int .i64 2)) (hJd : ∀ pre W q, J pre W → J pre (World.drewN W q)) (h0 : J [] W) :
    CallsIn Fence.wide n Tryz.prog 177 #[.func (.yield l) #[] #[], .pointer (some ⟨Bs, 0, none⟩), .pointer (some ⟨Bm, 0, none⟩)] W fun e W' => (∃ v, e = .returned v) ∧
      ((∃ ys, ys = zs ∧ J ys W') ∨ (∃ pre, pre <+: zs ∧ Jx pre W')) := by
  have hs1 := fun (a : Option Addr) (len cap i : Nat) (h : i ≤ len) => slice_from (P := Tryz.prog) (t := 41) (by kernel_rfl) (fun w => by kernel_rfl) a len cap i h
  refine callsIn_of_wp Tryz.func177 rfl trivial ?_ rfl
  simp only [Tryz.ntmps177, List.size_toArray, List.length_cons, List.length_nil, Nat.reduceAdd, Nat.reduceSub, Array.replicate_succ, Array.replicate_zero, List.push_toArray, List.append_toArray, List.nil_append, List.cons_append]
  gi_wp2
  gi_loopw [4] (fun i wr => ∃ k : Nat, k ≤ zs.length ∧ i = .int .i64 ((2 * k : Nat) : Int) ∧ J (zs.take k) wr ∧ KeepsTwo n₀ Bs Bm W wr)
    (fun i _ => len + 2 - (intOf i).toNat)
  case atStart => exact ⟨0, Nat.zero_le _, rfl, h0, KeepsTwo.refl _ _ _ _⟩
  case round =>
    obtain ⟨k, hk, rfl, hJs, hnx⟩ := hrel
    have hcs := hnx.cell1.trans hBs
    have hcm := hnx.cell2.trans hBm
    by_cases hlt : k < zs.length
    · have hi : 2 * k < len := by omega
      obtain ⟨X, hX⟩ := hs1 (some ⟨b, off, none⟩) len cap (2 * k) (by omega)
      obtain ⟨c, hc⟩ : ∃ c : Nat, min 2 (len - 2 * k) = c := ⟨_, rfl⟩
      have hmin : min (2 : Int) ((len - 2 * k : Nat) : Int) = (c : Int) := by omega
      gi_wp2
      gi_quiet (fail)
      obtain ⟨fn, tmps, assign, body, hy, hR⟩ := hY _ zs[k] (wr.drewN nq) (hJd _ _ nq hJs) (by rw [List.length_take]; omega)
      rw [← List.take_succ_eq_append_getElem hlt] at hR
      rw [hz2 k hlt] at hy
      unfold part at hy
      rw [hc] at hy
      gi_wp2
      refine hR.mono ?_
      rintro e W3 (⟨rfl, hJ3, hk3⟩ | ⟨rfl, hJx3⟩)
      · have hk4 : KeepsTwo n₀ Bs Bm wr W3 := (KeepsTwo.drewN n₀ Bs Bm wr nq).trans hk3
        have hcm3 := hk4.cell2.trans hcm
        gi_wp2
        go_roundw
        case rel => exact ⟨k + 1, by omega, by go_num, hJ3, hnx.trans hk4⟩
        case measure => simp [intOf]; omega
      · gi_wp2
        refine bodyPost_ret (results_none rfl _ _ _) rfl ?_
        exact ⟨⟨_, rfl⟩, .inr ⟨_, List.take_prefix _ _, hJx3⟩⟩
    · obtain rfl : k = zs.length := by omega
      rw [List.take_length] at hJs
      gi_wp2
      go_end0
      exact ⟨⟨_, rfl⟩, .inl ⟨_, rfl, hJs⟩⟩

set_option maxRecDepth 100000 in
set_option maxHeartbeats 1000000 in
theorem chunk1_nil_in (n : Nat) {α : Type} (l Bs Bm cap : Nat) (A : Option Addr) (J : List α → World → Prop) (W : World) (hBs : W.cell? ⟨Bs, 0, none⟩ = some (.slice A 0 cap)) (h0 : J [] W) :
    CallsIn Fence.wide n Tryz.prog 177 #[.func (.yield l) #[] #[], .pointer (some ⟨Bs, 0, none⟩), .pointer (some ⟨Bm, 0, none⟩)] W fun e W' => (∃ v, e = .returned v) ∧ J [] W' := by
  refine callsIn_of_wp Tryz.func177 rfl trivial ?_ rfl
  simp only [Tryz.ntmps177, List.size_toArray, List.length_cons, List.length_nil, Nat.reduceAdd, Nat.reduceSub, Array.replicate_succ, Array.replicate_zero, List.push_toArray, List.append_toArray, List.nil_append, List.cons_append]
  gi_wp2
  gi_loopw [4] (fun i wr => i = .int .i64 0 ∧ J [] wr ∧ wr.cell? ⟨Bs, 0, none⟩ = some (.slice A 0 cap)) (fun _ _ => 0)
  case atStart => exact ⟨rfl, h0, hBs⟩
  case round =>
    obtain ⟨rfl, hJs, hBs'⟩ := hrel
    gi_wp2
    go_end0
    exact ⟨⟨_, rfl⟩, hJs⟩

set_option maxHeartbeats 1000000 in
theorem chunk_any (a : Option Addr) (len cap : Nat) (w : World) :
    Calls Tryz.prog 171 #[.slice a len cap, .int .i64 2] w fun e w' => e = .returned (.func (.func 177) #[] #[.pointer (some ⟨w.heap.size, 0, none⟩), .pointer (some ⟨w.heap.size + 1, 0, none⟩)]) ∧ w' = (w.alloc (.cells #[.slice a len cap] 41)).alloc (.cells #[.int .i64 2] 3) := by
  go_enter Tryz.func171, Tryz.ntmps171
  go_wp2
  go_ret
  exact ⟨rfl, rfl⟩

theorem chunk_stops (n : Nat) (hn : 1 ≤ n) {α : Type} (enc : α → Value) (Bs Bm n₀ len cap : Nat) (hlc : len ≤ cap) (A : Option Addr) (zs : List α) (hmax : len ≤ 100000) (w : World) (hBs : Bs < w.heap.size) (hBm : Bm < w.heap.size)
    (hcs : w.cell? ⟨Bs, 0, none⟩ = some (.slice A len cap)) (hcm : w.cell? ⟨Bm, 0, none⟩ = some (.int .i64 2))
    (hz1 : zs.length = (len + 1) / 2) (hA : 0 < len → ∃ b off, A = some ⟨b, off, none⟩ ∧ ∀ k (h : k < zs.length), enc zs[k] = part b off 2 len k) :
    SeqStopsK Fence.wide n Tryz.prog 177 #[.pointer (some ⟨Bs, 0, none⟩), .pointer (some ⟨Bm, 0, none⟩)] (fun x : α => #[enc x]) (KeepsTwo n₀ Bs Bm) (fun ys => ys = zs) (fun pre => pre <+: zs) zs.length w := fun l J Jx W hW hJ _ hY h0' => by
  have hcs' := (hW.cell (p := ⟨Bs, 0, none⟩) hBs).trans hcs
  have hcm' := (hW.cell (p := ⟨Bm, 0, none⟩) hBm).trans hcm
  rcases Nat.eq_zero_or_pos len with rfl | hz
  · obtain rfl : zs = [] := List.eq_nil_of_length_eq_zero (by omega)
    exact (chunk1_nil_in n l Bs Bm cap A J W hcs' h0').mono fun e W' ⟨he, hj⟩ => ⟨he, .inl ⟨_, rfl, hj⟩⟩
  · obtain ⟨b, off, rfl, hz2⟩ := hA hz
    exact chunk1_in n hn enc l Bs Bm _ b off len cap hlc zs hmax hz1 hz2 J Jx hY W hcs' hcm' (fun pre W1 q h => hJ pre W1 _ none h ⟨rfl, rfl, rfl, zq _, fun _ _ _ => rfl⟩ (fun r e => by cases e)) h0'

set_option maxRecDepth 100000 in
set_option maxHeartbeats 2000000 in
theorem chunk8_in (n : Nat) (hn : 1 ≤ n) {α : Type} (enc : α → Value) (l Bs Bm n₀ b off len cap : Nat) (hlc : len ≤ cap) (zs : List α) (hmax : len ≤ 100000)
    (hz1 : zs.length = (len + 7) / 8) (hz2 : ∀ k (h : k < zs.length), enc zs[k] = part b off 8 len k) (J Jx : List α → World → Prop)
    (hY : ∀ pre x W, J pre W → pre.length < zs.length → YieldAt Fence.wide (n - 1) Tryz.prog l #[enc x] W fun e W' =>
      (e = .returned (.bool true) ∧ J (pre ++ [x]) W' ∧ Below n₀ W W') ∨ (e = .returned (.bool false) ∧ Jx (pre ++ [x]) W'))
    (W : World) (hBs : W.cell? ⟨Bs, 0, none⟩ = some (.slice (some ⟨b, off, none⟩) len cap)) (hBm : W.cell? ⟨Bm, 0, none⟩ = some (.int .i64 8)) (hBsn : Bs < n₀) (hBmn : Bm < n₀) (hJd : ∀ pre W q, J pre W → J pre (World.drewN W q)) (h0 : J [] W) :
    CallsIn Fence.wide n Tryz.prog 154 #[.func (.yield l) #[] #[], .pointer (some ⟨Bs, 0, none⟩), .pointer (some ⟨Bm, 0, none⟩)] W fun e W' => (∃ v, e = .returned v) ∧
      ((∃ ys, ys = zs ∧ J ys W') ∨ (∃ pre, pre <+: zs ∧ Jx pre W')) := by
  have hs1 := fun (a : Option Addr) (len cap i : Nat) (h : i ≤ len) => slice_from (P := Tryz.prog) (t := 37) (by kernel_rfl) (fun w => by kernel_rfl) a len cap i h
  refine callsIn_of_wp Tryz.func154 rfl trivial ?_ rfl
  simp only [Tryz.ntmps154, List.size_toArray, List.length_cons, List.length_nil, Nat.reduceAdd, Nat.reduceSub, Array.replicate_succ, Array.replicate_zero, List.push_toArray, List.append_toArray, List.nil_append, List.cons_append]
  gi_wp2
  gi_loopw [4] (fun i wr => ∃ k : Nat, k ≤ zs.length ∧ i = .int .i64 ((8 * k : Nat) : Int) ∧ J (zs.take k) wr ∧ Below n₀ W wr)
    (fun i _ => len + 8 - (intOf i).toNat)
  case atStart => exact ⟨0, Nat.zero_le _, rfl, h0, Below.refl _ _⟩
  case round =>
    obtain ⟨k, hk, rfl, hJs, hnx⟩ := hrel
    have hcs := (hnx.cell (p := ⟨Bs, 0, none⟩) hBsn).trans hBs
    have hcm := (hnx.cell (p := ⟨Bm, 0, none⟩) hBmn).trans hBm
    by_cases hlt : k < zs.length
    · have hi : 8 * k < len := by omega
      obtain ⟨X, hX⟩ := hs1 (some ⟨b, off, none⟩) len cap (8 * k) (by omega)
      obtain ⟨c, hc⟩ : ∃ c : Nat, min 8 (len - 8 * k) = c := ⟨_, rfl⟩
      have hmin : min (8 : Int) ((len - 8 * k : Nat) : Int) = (c : Int) := by omega
      gi_wp2
      gi_quiet (fail)
      obtain ⟨fn, tmps, assign, body, hy, hR⟩ := hY _ zs[k] (wr.drewN nq) (hJd _ _ nq hJs) (by rw [List.length_take]; omega)
      rw [← List.take_succ_eq_append_getElem hlt] at hR
      rw [hz2 k hlt] at hy
      unfold part at hy
      rw [hc] at hy
      gi_wp2
      refine hR.mono ?_
      rintro e W3 (⟨rfl, hJ3, hk3⟩ | ⟨rfl, hJx3⟩)
      · have hk4 : Below n₀ wr W3 := (drewN_below (Below.refl n₀ wr) nq).trans hk3
        have hcm3 := (hk4.cell (p := ⟨Bm, 0, none⟩) hBmn).trans hcm
        gi_wp2
        go_roundw
        case rel => exact ⟨k + 1, by omega, by go_num, hJ3, hnx.trans hk4⟩
        case measure => simp [intOf]; omega
      · gi_wp2
        refine bodyPost_ret (results_none rfl _ _ _) rfl ?_
        exact ⟨⟨_, rfl⟩, .inr ⟨_, List.take_prefix _ _, hJx3⟩⟩
    · obtain rfl : k = zs.length := by omega
      rw [List.take_length] at hJs
      gi_wp2
      go_end0
      exact ⟨⟨_, rfl⟩, .inl ⟨_, rfl, hJs⟩⟩

set_option maxRecDepth 100000 in
set_option maxHeartbeats 1000000 in
theorem chunk8_nil_in (n : Nat) {α : Type} (l Bs Bm cap : Nat) (A : Option Addr) (J : List α → World → Prop) (W : World) (hBs : W.cell? ⟨Bs, 0, none⟩ = some (.slice A 0 cap)) (h0 : J [] W) :
    CallsIn Fence.wide n Tryz.prog 154 #[.func (.yield l) #[] #[], .pointer (some ⟨Bs, 0, none⟩), .pointer (some ⟨Bm, 0, none⟩)] W fun e W' => (∃ v, e = .returned v) ∧ J [] W' := by
  refine callsIn_of_wp Tryz.func154 rfl trivial ?_ rfl
  simp only [Tryz.ntmps154, List.size_toArray, List.length_cons, List.length_nil, Nat.reduceAdd, Nat.reduceSub, Array.replicate_succ, Array.replicate_zero, List.push_toArray, List.append_toArray, List.nil_append, List.cons_append]
  gi_wp2
  gi_loopw [4] (fun i wr => i = .int .i64 0 ∧ J [] wr ∧ wr.cell? ⟨Bs, 0, none⟩ = some (.slice A 0 cap)) (fun _ _ => 0)
  case atStart => exact ⟨rfl, h0, hBs⟩
  case round =>
    obtain ⟨rfl, hJs, hBs'⟩ := hrel
    gi_wp2
    go_end0
    exact ⟨⟨_, rfl⟩, hJs⟩

set_option maxHeartbeats 1000000 in
theorem chunkb_any (a : Option Addr) (len cap : Nat) (w : World) :
    Calls Tryz.prog 129 #[.slice a len cap, .int .i64 8] w fun e w' => e = .returned (.func (.func 154) #[] #[.pointer (some ⟨w.heap.size, 0, none⟩), .pointer (some ⟨w.heap.size + 1, 0, none⟩)]) ∧ w' = (w.alloc (.cells #[.slice a len cap] 37)).alloc (.cells #[.int .i64 8] 3) := by
  go_enter Tryz.func129, Tryz.ntmps129
  go_wp2
  go_ret
  exact ⟨rfl, rfl⟩

theorem chunkb_stops (n : Nat) (hn : 1 ≤ n) {α : Type} (enc : α → Value) (Bs Bm n₀ len cap : Nat) (hlc : len ≤ cap) (A : Option Addr) (zs : List α) (hmax : len ≤ 100000) (w : World) (hBs : Bs < n₀) (hBm : Bm < n₀) (hn₀ : n₀ ≤ w.heap.size)
    (hcs : w.cell? ⟨Bs, 0, none⟩ = some (.slice A len cap)) (hcm : w.cell? ⟨Bm, 0, none⟩ = some (.int .i64 8))
    (hz1 : zs.length = (len + 7) / 8) (hA : 0 < len → ∃ b off, A = some ⟨b, off, none⟩ ∧ ∀ k (h : k < zs.length), enc zs[k] = part b off 8 len k) :
    SeqStopsK Fence.wide n Tryz.prog 154 #[.pointer (some ⟨Bs, 0, none⟩), .pointer (some ⟨Bm, 0, none⟩)] (fun x : α => #[enc x]) (Below n₀) (fun ys => ys = zs) (fun pre => pre <+: zs) zs.length w := fun l J Jx W hW hJ _ hY h0' => by
  have hcs' := (hW.cell (p := ⟨Bs, 0, none⟩) (Nat.lt_of_lt_of_le hBs hn₀)).trans hcs
  have hcm' := (hW.cell (p := ⟨Bm, 0, none⟩) (Nat.lt_of_lt_of_le hBm hn₀)).trans hcm
  rcases Nat.eq_zero_or_pos len with rfl | hz
  · obtain rfl : zs = [] := List.eq_nil_of_length_eq_zero (by omega)
    exact (chunk8_nil_in n l Bs Bm cap A J W hcs' h0').mono fun e W' ⟨he, hj⟩ => ⟨he, .inl ⟨_, rfl, hj⟩⟩
  · obtain ⟨b, off, rfl, hz2⟩ := hA hz
    exact chunk8_in n hn enc l Bs Bm _ b off len cap hlc zs hmax hz1 hz2 J Jx hY W hcs' hcm' hBs hBm (fun pre W1 q h => hJ pre W1 _ none h ⟨rfl, rfl, rfl, zq _, fun _ _ _ => rfl⟩ (fun r e => by cases e)) h0'

end Go.Proofs.YtlgmjnjhdamknaaGreat

namespace Go.Proofs.YtlgmjnjhdamknaaGreat
open Go.RowKit Go.Shelf

attribute [local go_sem] Oper.semAt_some

theorem Word.fin_map {β : Type} (n : Nat) (g : Nat → β) : (List.finRange n).map (fun k => g k.val) = (List.range n).map g := by
  apply List.ext_getElem
  · simp
  · intro i h1 h2
    simp
theorem Word.fin_pack (ws : List Bool) : ((List.finRange ((ws.length + 7) / 8)).map fun k => Word.packAt ws k.val) = Word.pack ws := Word.fin_map _ (Word.packAt ws)

theorem boxed_called {W w1 : World} {n₀ B : Nat} {t e : TypeId} {size : Nat} {v v' : Value} {k m : Nat} {xs ys : List Value}
    (hv : Boxed W B t v) (hte : t ≠ e) (hrow : W.ownsRow n₀ e size v k xs) (hn₀ : n₀ ≤ W.heap.size) (hB : n₀ ≤ B)
    (hown' : w1.ownsRow n₀ e size v' m ys) (hgrow : W.grownBy w1 v.ownBlock) :
    Boxed w1 B t v ∧ Boxed (w1.setCell ⟨B, 0, none⟩ v') B t v' ∧ (w1.setCell ⟨B, 0, none⟩ v').ownsRow n₀ e size v' m ys ∧ KeepsOthers W (w1.setCell ⟨B, 0, none⟩ v') ∧ Below n₀ W (w1.setCell ⟨B, 0, none⟩ v') := by
  have hv1 : Boxed w1 B t v := hv.kept hgrow (hv.not_row hte hrow)
  refine ⟨hv1, hv1.set v', hown'.kept (grownBy_setCell' w1 B v') (.inr (hv1.not_row hte hown').symm), ?_, ?_⟩
  · refine (KeepsOthers.of_grownBy hgrow fun j o ej hj => ?_).trans (KeepsOthers.setCell _ _ _)
    rcases hrow.2 with ⟨rfl, _⟩ | ⟨g, cap, cur, rfl, _, hgb, _⟩
    · simp [Value.ownBlock] at ej
    · obtain rfl : g = j := by simpa [Value.ownBlock] using ej
      rw [hgb] at hj; cases hj; rfl
  · refine ((Below.refl n₀ W).grown hgrow hn₀ fun j ej => ?_).setCell (p := ⟨B, 0, none⟩) hB v'
    rcases hrow.2 with ⟨rfl, _⟩ | ⟨g, cap, cur, rfl, hb, _, _⟩
    · simp [Value.ownBlock] at ej
    · obtain rfl : g = j := by simpa [Value.ownBlock] using ej
      exact hb

set_option maxRecDepth 100000 in
set_option maxHeartbeats 2000000 in
theorem join16_any (Bs len cap sz : Nat) (S : Int) (hS : S = (sz : Int)) (A : Option Addr) (ws : List UInt16) (hl : ws.length = len) (hsz : sz ≤ 100000) (hlen : len ≤ 20000) (w : World) (hs : w.cell? ⟨Bs, 0, none⟩ = some (.slice A len cap)) (hL : Lies u16v w A ws) :
    Calls Tryz.prog 159 #[.func (.func 174) #[] #[.pointer (some ⟨Bs, 0, none⟩)], .int .i64 S, .func (.func 161) #[] #[]] w fun e w' =>
      ∃ A' c', e = .returned (.slice A' (2 * len) c') ∧ 2 * len ≤ c' ∧ c' ≤ maxLen ∧ Lies u8v w' A' (Word.bytes ws) ∧ Below w.heap.size w w' ∧ ∀ b o s, A' = some ⟨b, o, s⟩ → w.heap.size ≤ b := by
  subst hl
  subst hS
  have hBs : Bs < w.heap.size := World.block_lt_of_cell? w _ hs
  obtain ⟨i0, hi0, hz0, hz1, hz2⟩ := info_parts kit8.hi
  refine (callsIn_wide (n := 5)).1 ?_
  refine callsIn_of_wp_marks Tryz.func159 rfl trivial ?_ rfl
  simp only [Tryz.ntmps159, List.size_toArray, List.length_cons, List.length_nil, Nat.reduceAdd, Nat.reduceSub, Array.replicate_succ, Array.replicate_zero, List.push_toArray, List.append_toArray, List.nil_append, List.cons_append]
  have bF := Boxed.new w 193 (.func (.func 161) #[] #[])
  gi_wp2_with (first
    | (gi_at_make; go_must (refine wpListIn_make_own _ rfl _ _ 41 rfl w.heap.size 5 i0 (.int .u8 0) 1 kit8.ht hi0 hz0 hz1 .i64 .i64 _ sz rfl rfl rfl (by rw [hz2]; omega) (by unfold maxLen; omega) (by simp) ?_); intro w1 hown1 hg1))
  have hb1 : Below w.heap.size w w1 := ((Below.refl _ w).alloc (zq _) _).grown hg1 (by simp) (by simp)
  have bF1 := bF.kept hg1 (by simp)
  have hz1' : w.heap.size + 1 ≤ w1.heap.size := by have := hg1.size; simpa using this
  rw [World.size_alloc] at hown1
  generalize Value.slice (some { block := w.heap.size + 1, off := 0 }) 0 sz = v0 at hown1 ⊢
  have bA := Boxed.new w1 41 v0
  have hB0 : Below w.heap.size w (w1.alloc (.cells #[v0] 41)) := hb1.alloc hb1.size _
  have hs0 := (hB0.cell (p := ⟨Bs, 0, none⟩) hBs).trans hs
  refine wpIn_rangeFunc_ownG rfl (by omega) (gf := 174) (lb := #[.pointer (some ⟨Bs, 0, none⟩)]) rfl trivial (enters_of Tryz.func174 (by kernel_rfl) rfl)
    (values_stops Fence.wide (5 - 1) trivial rfl (by omega) Bs w.heap.size cap A ws (by omega) _ (by simp; omega) (by simp; omega) hs0 w rfl hB0 hL) belowK_t (belowK_b (by simp; omega)) (Below.refl _ _) (fun _ => rfl)
    (fun pre W => ((∃ v, Boxed W w1.heap.size 41 v ∧ W.ownsRow w.heap.size 5 1 v (2 * pre.length) ((Word.bytes pre).map u8v) ∧ True) ∧ Boxed W w.heap.size 193 (.func (.func 161) #[] #[])) ∧ Below w.heap.size w W)
    (fun _ _ _ => False)
    (OwnFrom.and (OwnFrom.and (Own.from (holdsRow_own w.heap.size w1.heap.size 41 5 1 (fun pre => 2 * pre.length) (fun pre => (Word.bytes pre).map u8v) (fun _ _ => True)) _) (Own.from (boxed_own _ _ _) _)) (ownFrom_below (zq _) (by simp; omega)))
    (fun _ _ _ _ _ hs _ _ => hs)
    ⟨⟨⟨_, bA, hown1.alloc _, trivial⟩, bF1.alloc _⟩, hB0⟩
    (fun x => { tmps := #[.func (.func 174) #[] #[.pointer (some ⟨Bs, 0, none⟩)], .int .i64 sz, .func (.func 161) #[] #[], undef, undef, .pointer (some ⟨w.heap.size, 0, none⟩), .slice none 0 0, .pointer (some ⟨w1.heap.size, 0, none⟩), u16v x, .int .i64 sz, v0, .func (.func 174) #[] #[.pointer (some ⟨Bs, 0, none⟩)], u16v x, undef, undef, undef, undef, undef], defers := [] }) ?assign ?body ?done ?stop
  case assign =>
    intro l x W K hK
    gi_wp2
    exact hK
  case body =>
    rintro l pre x W ⟨⟨⟨v, hv, hrow, -⟩, hF⟩, hB⟩ hlt
    have hc := hv.cell
    have hcF := hF.cell
    gi_wp2_with (refine ⟨trivial, ?_⟩; gi_at_call 161; refine (CallsIn.inRound l (callsIn_wide.2 (layWord_any x w.heap.size v (2 * pre.length) (Word.bytes pre) W hrow hB.size (by omega)))).mono ?_; rintro e w2 ⟨A2, c2, rfl, hown2, hg2⟩; obtain ⟨hv1, hv2, hr2, hk2, hb2⟩ := boxed_called hv (by decide) hrow hB.size hb1.size hown2 hg2; have hc1 := hv1.cell; have hf1 := hv1.frozen)
    refine ⟨hk2.from _, hb2, ⟨⟨_, hv2, ?_, trivial⟩, (hF.kept hg2 (hF.not_row (by decide) hrow)).other (by omega) _⟩, hB.trans hb2⟩
    rw [Word.bytes_snoc, List.length_append, List.length_singleton, Nat.mul_add, Nat.mul_one]
    exact hr2
  case done =>
    rintro D ys W hD rfl ⟨⟨⟨v, hv, hrow, -⟩, hF⟩, hB⟩ hK
    have hc := hv.cell
    gi_wp2
    refine ⟨by simp, .inl ⟨_, _, rfl, run_takeDeferred hK, ?_⟩⟩
    have hr := ownsRow_putObj hrow (.deferred none) hK rfl
    obtain ⟨A', c', rfl, _, h1, h2, h3⟩ := own_lies hr
    exact ⟨_, results_tmp rfl _ _ _, A', c', rfl, h1, h2, h3, hB.trans (belowK_b (w := w) (zq _) W D _ _ (by simp at hD; omega) hK rfl rfl), fun b o s e => by subst e; exact (hr.lt b rfl).1⟩
  case stop =>
    rintro D c pre W _ _ h _
    exact h.elim
set_option maxRecDepth 100000 in
set_option maxHeartbeats 2000000 in
theorem joinb_any (Bs Bm len cap sz : Nat) (S : Int) (hS : S = (sz : Int)) (hlc : len ≤ cap) (A : Option Addr) (ws : List Bool) (hl : ws.length = len) (hsz : sz ≤ 100000) (hlen : len ≤ 20000) (w : World) (hs : w.cell? ⟨Bs, 0, none⟩ = some (.slice A len cap)) (hm : w.cell? ⟨Bm, 0, none⟩ = some (.int .i64 8)) (hL : Lies bitv w A ws) :
    Calls Tryz.prog 128 #[.func (.func 154) #[] #[.pointer (some ⟨Bs, 0, none⟩), .pointer (some ⟨Bm, 0, none⟩)], .int .i64 S, .func (.func 131) #[] #[]] w fun e w' =>
      ∃ A' c', e = .returned (.slice A' ((len + 7) / 8) c') ∧ (len + 7) / 8 ≤ c' ∧ c' ≤ maxLen ∧ Lies u8v w' A' (Word.pack ws) ∧ Below w.heap.size w w' ∧ ∀ b o s, A' = some ⟨b, o, s⟩ → w.heap.size ≤ b := by
  subst hl
  subst hS
  have hBs : Bs < w.heap.size := World.block_lt_of_cell? w _ hs
  have hBm : Bm < w.heap.size := World.block_lt_of_cell? w _ hm
  obtain ⟨b, off, hA⟩ : ∃ b off, 0 < ws.length → A = some ⟨b, off, none⟩ ∧ b < w.heap.size ∧ Lies bitv w (some ⟨b, off, none⟩) ws := by
    rcases Nat.eq_zero_or_pos ws.length with h | h
    · exact ⟨0, 0, fun h' => by omega⟩
    · obtain ⟨b, off, rfl, hb, _⟩ := hL.at_ h
      exact ⟨b, off, fun _ => ⟨rfl, hb, hL⟩⟩
  obtain ⟨i0, hi0, hz0, hz1, hz2⟩ := info_parts kit8.hi
  refine (callsIn_wide (n := 5)).1 ?_
  refine callsIn_of_wp_marks Tryz.func128 rfl trivial ?_ rfl
  simp only [Tryz.ntmps128, List.size_toArray, List.length_cons, List.length_nil, Nat.reduceAdd, Nat.reduceSub, Array.replicate_succ, Array.replicate_zero, List.push_toArray, List.append_toArray, List.nil_append, List.cons_append]
  have bF := Boxed.new w 171 (.func (.func 131) #[] #[])
  gi_wp2_with (first
    | (gi_at_make; go_must (refine wpListIn_make_own _ rfl _ _ 41 rfl w.heap.size 5 i0 (.int .u8 0) 1 kit8.ht hi0 hz0 hz1 .i64 .i64 _ sz rfl rfl rfl (by rw [hz2]; omega) (by unfold maxLen; omega) (by simp) ?_); intro w1 hown1 hg1))
  have hb1 : Below w.heap.size w w1 := ((Below.refl _ w).alloc (zq _) _).grown hg1 (by simp) (by simp)
  have bF1 := bF.kept hg1 (by simp)
  have hz1' : w.heap.size + 1 ≤ w1.heap.size := by have := hg1.size; simpa using this
  rw [World.size_alloc] at hown1
  generalize Value.slice (some { block := w.heap.size + 1, off := 0 }) 0 sz = v0 at hown1 ⊢
  have bA := Boxed.new w1 41 v0
  have hB0 : Below w.heap.size w (w1.alloc (.cells #[v0] 41)) := hb1.alloc hb1.size _
  have hs0 := (hB0.cell (p := ⟨Bs, 0, none⟩) hBs).trans hs
  have hm0 := (hB0.cell (p := ⟨Bm, 0, none⟩) hBm).trans hm
  refine wpIn_rangeFunc_ownG rfl (by omega) (gf := 154) (lb := #[.pointer (some ⟨Bs, 0, none⟩), .pointer (some ⟨Bm, 0, none⟩)]) rfl trivial (enters_of Tryz.func154 (by kernel_rfl) rfl)
    (chunkb_stops (5 - 1) (by omega) (fun k : Fin ((ws.length + 7) / 8) => part b off 8 ws.length k.val) Bs Bm w.heap.size ws.length cap hlc A (List.finRange _) (by omega) _ hBs hBm (by simp; omega) hs0 hm0 (by simp) (fun h => ⟨b, off, (hA h).1, fun k hk => by simp⟩)) belowK_t (belowK_b (by simp; omega)) (Below.refl _ _) (fun _ => rfl)
    (fun pre W => ((∃ v, Boxed W w1.heap.size 41 v ∧ W.ownsRow w.heap.size 5 1 v pre.length ((pre.map fun k => Word.packAt ws k.val).map u8v) ∧ True) ∧ Boxed W w.heap.size 171 (.func (.func 131) #[] #[])) ∧ Below w.heap.size w W)
    (fun _ _ _ => False)
    (OwnFrom.and (OwnFrom.and (Own.from (holdsRow_own w.heap.size w1.heap.size 41 5 1 (fun pre : List (Fin ((ws.length + 7) / 8)) => pre.length) (fun pre => (pre.map fun k => Word.packAt ws k.val).map u8v) (fun _ _ => True)) _) (Own.from (boxed_own _ _ _) _)) (ownFrom_below (zq _) (by simp; omega)))
    (fun _ _ _ _ _ hs _ _ => hs)
    ⟨⟨⟨_, bA, hown1.alloc _, trivial⟩, bF1.alloc _⟩, hB0⟩
    (fun x => { tmps := #[.func (.func 154) #[] #[.pointer (some ⟨Bs, 0, none⟩), .pointer (some ⟨Bm, 0, none⟩)], .int .i64 sz, .func (.func 131) #[] #[], undef, undef, .pointer (some ⟨w.heap.size, 0, none⟩), .slice none 0 0, .pointer (some ⟨w1.heap.size, 0, none⟩), part b off 8 ws.length x.val, .int .i64 sz, v0, .func (.func 154) #[] #[.pointer (some ⟨Bs, 0, none⟩), .pointer (some ⟨Bm, 0, none⟩)], part b off 8 ws.length x.val, undef, undef, undef, undef, undef], defers := [] }) ?assign ?body ?done ?stop
  case assign =>
    intro l x W K hK
    gi_wp2
    exact hK
  case body =>
    rintro l pre x W ⟨⟨⟨v, hv, hrow, -⟩, hF⟩, hB⟩ hlt
    have hc := hv.cell
    have hcF := hF.cell
    have hx := x.isLt
    have hlt' : pre.length < (ws.length + 7) / 8 := by simpa using hlt
    have hL0 : Lies bitv W (some ⟨b, off + 8 * x.val, none⟩) ((ws.drop (8 * x.val)).take 8) := (((hA (by omega)).2.2.drop (8 * x.val)).take 8).below hB (zq _)
    have hl8 : ((ws.drop (8 * x.val)).take 8).length = min 8 (ws.length - 8 * x.val) := by rw [List.length_take, List.length_drop]
    gi_wp2_with (refine ⟨trivial, ?_⟩; gi_at_call 131; refine (CallsIn.inRound l (callsIn_wide.2 (layBits_any _ _ (min 8 (ws.length - 8 * x.val)) ((ws.drop (8 * x.val)).take 8) hl8 (by omega) w.heap.size v pre.length (pre.map fun k => Word.packAt ws k.val) W hL0 hrow hB.size (by omega)))).mono ?_; rintro e w2 ⟨A2, c2, rfl, hown2, hg2⟩; obtain ⟨hv1, hv2, hr2, hk2, hb2⟩ := boxed_called hv (by decide) hrow hB.size hb1.size hown2 hg2; have hc1 := hv1.cell; have hf1 := hv1.frozen)
    refine ⟨hk2.from _, hb2, ⟨⟨_, hv2, ?_, trivial⟩, (hF.kept hg2 (hF.not_row (by decide) hrow)).other (by omega) _⟩, hB.trans hb2⟩
    rw [List.map_append, List.length_append, List.length_singleton]
    exact hr2
  case done =>
    rintro D ys W hD rfl ⟨⟨⟨v, hv, hrow, -⟩, hF⟩, hB⟩ hK
    have hc := hv.cell
    gi_wp2
    refine ⟨by simp, .inl ⟨_, _, rfl, run_takeDeferred hK, ?_⟩⟩
    rw [List.length_finRange, Word.fin_pack] at hrow
    have hr := ownsRow_putObj hrow (.deferred none) hK rfl
    obtain ⟨A', c', rfl, _, h1, h2, h3⟩ := own_lies hr
    exact ⟨_, results_tmp rfl _ _ _, A', c', rfl, h1, h2, h3, hB.trans (belowK_b (w := w) (zq _) W D _ _ (by simp at hD; omega) hK rfl rfl), fun b o s e => by subst e; exact (hr.lt b rfl).1⟩
  case stop =>
    rintro D c pre W _ _ h _
    exact h.elim
end Go.Proofs.YtlgmjnjhdamknaaGreat
