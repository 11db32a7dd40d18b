
/- A part of the proof of the law MasterDoes. -/
import Derived.Test.YtlgmjnjhdamknaaGreatMem
import Derived.Test.YtlgmjnjhdamknaaGreatChunk
import Derived.Laws.Cover3
namespace Go.Proofs.YtlgmjnjhdamknaaGreat
open Go.RowKit Go.Shelf

set_option maxRecDepth 100000 in
set_option maxHeartbeats 400000 in
theorem bytes_any (A : Option Addr) (n c : Nat) (l : List UInt16) (hn : l.length = n) (hm : n ≤ 20000) (w : World) (hb : Lies u16v w A l) :
    Calls Tryz.prog 133 #[.slice A n c] w fun e w' => ∃ A' c', e = .returned (.slice A' (2 * n) c') ∧ 2 * n ≤ c' ∧ c' ≤ maxLen ∧ Lies u8v w' A' (Word.bytes l) ∧ Below w.heap.size w w' ∧ ∀ b o s, A' = some ⟨b, o, s⟩ → w.heap.size ≤ b := by
  have HN := qh hn
  clear hn
  go_enter Tryz.func133, Tryz.ntmps133
  go_wp2_with fail
  refine (values_any A n c w).mono ?_
  rintro e w1 ⟨rfl, hw1⟩
  have hc1 : w1.cell? ⟨w.heap.size, 0, none⟩ = some (.slice A n c) := by rw [hw1]; simp
  have hbe1 : Below w.heap.size w w1 := by rw [hw1]; exact (Below.refl _ _).alloc (zq _) _
  have hb1 := hb.below hbe1 (zq _)
  clear hw1
  go_wp2_with fail
  refine (join16_any w.heap.size n c (2 * n) _ (by simp) A l HN.out (by omega) hm w1 hc1 hb1).mono ?_
  rintro e w2 ⟨A2, c2, rfl, h1, h2, h3, hbe2, hfr⟩
  go_wp2_with fail
  go_ret
  exact ⟨A2, c2, rfl, h1, h2, h3, hbe1.trans (hbe2.mono hbe1.size), fun b o s e => Nat.le_trans hbe1.size (hfr b o s e)⟩

set_option maxRecDepth 100000 in
set_option maxHeartbeats 400000 in
theorem pack_any (A : Option Addr) (n c : Nat) (l : List Bool) (hn : l.length = n) (hnc : n ≤ c) (hm : n ≤ 20000) (w : World) (hb : Lies bitv w A l) :
    Calls Tryz.prog 80 #[.slice A n c] w fun e w' => ∃ A' c', e = .returned (.slice A' ((n + 7) / 8) c') ∧ (n + 7) / 8 ≤ c' ∧ c' ≤ maxLen ∧ Lies u8v w' A' (Word.pack l) ∧ Below w.heap.size w w' ∧ ∀ b o s, A' = some ⟨b, o, s⟩ → w.heap.size ≤ b := by
  have HN := qh hn
  clear hn
  go_enter Tryz.func80, Tryz.ntmps80
  go_wp2_with fail
  refine (chunkb_any A n c w).mono ?_
  rintro e w1 ⟨rfl, hw1⟩
  have hc1 : w1.cell? ⟨w.heap.size, 0, none⟩ = some (.slice A n c) := by rw [hw1]; simp
  have hm1 : w1.cell? ⟨w.heap.size + 1, 0, none⟩ = some (.int .i64 8) := by rw [hw1]; have := (Boxed.new (w.alloc (.cells #[.slice A n c] 37)) 3 (.int .i64 8)).cell; rw [World.size_alloc] at this; exact this
  have hbe1 : Below w.heap.size w w1 := by rw [hw1]; exact ((Below.refl _ _).alloc (zq _) _).alloc (by simp) _
  have hb1 := hb.below hbe1 (zq _)
  clear hw1
  go_wp2_with fail
  refine (taken_any n (by omega) w1).mono ?_
  rintro e w1' ⟨rfl, rfl⟩
  go_wp2_with fail
  refine (joinb_any w.heap.size (w.heap.size + 1) n c ((n + 7) / 8) _ rfl hnc A l HN.out (by omega) hm w1 hc1 hm1 hb1).mono ?_
  rintro e w2 ⟨A2, c2, rfl, h1, h2, h3, hbe2, hfr⟩
  go_wp2_with fail
  go_ret
  exact ⟨A2, c2, rfl, h1, h2, h3, hbe1.trans (hbe2.mono hbe1.size), fun b o s e => Nat.le_trans hbe1.size (hfr b o s e)⟩

attribute [local go_sem] Oper.semAt_some

def WordsPost (w : World) (l : List UInt8) (e : Ending) (w' : World) : Prop :=
  ∃ A' n' c', e = .returned (.tuple #[.slice A' n' c', .bool (Word.isWords l)]) ∧ (Word.ansWords l).length = n' ∧ n' ≤ c' ∧ c' ≤ maxLen ∧ Lies u16v w' A' (Word.ansWords l) ∧ Below w.heap.size w w' ∧ ∀ b o s, A' = some ⟨b, o, s⟩ → 0 < n' → w.heap.size ≤ b
theorem WordsPost.none (w w' : World) (l : List UInt8) (h : Word.isWords l = false) (hb : Below w.heap.size w w') : WordsPost w l (.returned (.tuple #[.slice Option.none 0 0, .bool false])) w' :=
  have hc : Word.ansWords l = [] := by unfold Word.ansWords; rw [h]; rfl
  ⟨Option.none, 0, 0, by rw [h], by rw [hc]; rfl, zq _, Nat.zero_le _, by rw [hc]; exact Lies.nil _ _, hb, by rintro _ _ _ h; cases h⟩
theorem WordsPost.some (w w' : World) (l : List UInt8) (A : Option Addr) (n c : Nat) (h : Word.isWords l = true) (hn : (Word.words l).length = n) (hc : n ≤ c) (hm : c ≤ maxLen) (hy : Lies u16v w' A (Word.words l)) (hb : Below w.heap.size w w') (hf : ∀ b o s, A = some ⟨b, o, s⟩ → 0 < n → w.heap.size ≤ b) :
    WordsPost w l (.returned (.tuple #[.slice A n c, .bool true])) w' :=
  have hc' : Word.ansWords l = Word.words l := by unfold Word.ansWords; rw [h]; rfl
  ⟨A, n, c, by rw [h], by rw [hc']; exact hn, hc, hm, by rw [hc']; exact hy, hb, hf⟩

def wordsI (K n₀ bl bs bm : Nat) (w : World) (sv : Value) (g : Nat → UInt16) (pre : List (Fin K)) (W : World) : Prop :=
  (((∃ v, Boxed W bl 36 v ∧ W.ownsRow n₀ 38 1 v pre.length ((pre.map fun k => g k.val).map u16v) ∧ True) ∧ Boxed W bs 41 sv) ∧ Boxed W bm 3 (.int .i64 2)) ∧ Below n₀ w W
theorem words_own (K B n₀ bl bs bm : Nat) (w : World) (sv : Value) (g : Nat → UInt16) (hn : n₀ ≤ w.heap.size) (hB : n₀ ≤ B) : OwnFrom B (wordsI K n₀ bl bs bm w sv g) := by
  have h1 := holdsRow_own n₀ bl 36 38 1 (fun pre : List (Fin K) => pre.length) (fun pre => (pre.map fun k => g k.val).map u16v) (fun _ _ => True)
  have h2 := boxed_own (β := List (Fin K)) bs 41 (fun _ => sv)
  have h3 := boxed_own (β := List (Fin K)) bm 3 (fun _ => .int .i64 2)
  have h4 := ownFrom_below (β := List (Fin K)) (w₀ := w) hn hB
  exact OwnFrom.and (OwnFrom.and (OwnFrom.and (Own.from h1 _) (Own.from h2 _)) (Own.from h3 _)) h4

theorem stepIn_append {F : Fence} {d : Nat} {P : Program} {ops : Array Oper} {o : Oper} {a : Act} {w : World} {K : Act → World → Prop} {Q : Exit → Act → World → Prop} {E : Prop} (hgd : o.guard = none) (s x : Operand) (t : TypeId)
    (ho : o.op = .call { callee := .builtin .append, args := #[s, x], argTypes := #[t, t] }) (v' : Value) (w' : World) (u1 u2 : Value) (h1 : a.eval s = u1) (h2 : a.eval x = u2) (hrun : (Builtin.append_ #[t, t] o.type #[u1, u2]).run P w = .ok v' w') (h : K (a.put o.dst v') w') :
    if Region.wanted o (yielded ops a.tmps) = true then Oper.wpIn F d P o a w K Q else E := by
  rw [if_pos (by simp [Region.wanted, hgd])]
  unfold Oper.wpIn
  refine ⟨?_, ?_⟩
  · simp [Oper.about, ho, resolve, Target.leads, Sem.run_pure]
  · rw [Oper.semAt_plain F _ _ (by rw [ho]; intro c hc'; cases hc')]
    simp only [execOp, ho, resolve, invoke, builtin, Sem.run_bind, Sem.run_pure, Result.andThen_ok, List.map_toArray, List.map_cons, List.map_nil, h1, h2, hrun]
    exact h

theorem words_round (n₀ bl k : Nat) (v : Value) (xs : List UInt16) (y : UInt16) (W w2 : World) (hv : Boxed W bl 36 v) (hrow : W.ownsRow n₀ 38 1 v k (xs.map u16v)) (hn : n₀ ≤ W.heap.size) (hbl : n₀ ≤ bl) (hk : k ≤ 100000) (hbe : Below W.heap.size W w2) :
    (w2.cell? ⟨bl, 0, none⟩ = some v ∧ (w2.alloc (.cells #[.int .u16 (y.toNat : Int)] 38)).cell? ⟨bl, 0, none⟩ = some v) ∧ ∃ A3 c3 w3, (Builtin.append_ #[36, 36] 36 #[v, .slice (some ⟨w2.heap.size, 0, none⟩) 1 1]).run Tryz.prog (w2.alloc (.cells #[.int .u16 (y.toNat : Int)] 38)) = .ok (.slice A3 (k + 1) c3) w3 ∧
      w3.cell? ⟨bl, 0, none⟩ = some v ∧ w3.frozen? ⟨bl, 0, none⟩ = false ∧ Boxed (w3.setCell ⟨bl, 0, none⟩ (.slice A3 (k + 1) c3)) bl 36 (.slice A3 (k + 1) c3) ∧
      (w3.setCell ⟨bl, 0, none⟩ (.slice A3 (k + 1) c3)).ownsRow n₀ 38 1 (.slice A3 (k + 1) c3) (k + 1) ((xs ++ [y]).map u16v) ∧ KeepsOthers W (w3.setCell ⟨bl, 0, none⟩ (.slice A3 (k + 1) c3)) ∧
      Below n₀ W (w3.setCell ⟨bl, 0, none⟩ (.slice A3 (k + 1) c3)) ∧ ∀ bx t u, t ≠ 38 → bx ≠ bl → Boxed W bx t u → Boxed (w3.setCell ⟨bl, 0, none⟩ (.slice A3 (k + 1) c3)) bx t u := by
  have hg := grown_of_below hbe none
  have hrow2 := own_below hrow hbe
  have hv2 := hv.kept hg (by simp)
  have hz2 := hbe.size
  obtain ⟨A3, c3, w3, hrun, hown3, hg3, hb3⟩ := run_append_lies kit16 one16 (w2.alloc (.cells #[.int .u16 (y.toNat : Int)] 38)) 36 n₀ _ k xs (hrow2.alloc _) (some ⟨w2.heap.size, 0, none⟩) 1 1 [y] rfl (lies_new w2 #[.int .u16 (y.toNat : Int)] 38 [y] rfl) (by omega) (by unfold maxLen; omega) (by simp; omega)
  obtain ⟨hv4, hv5, hr5, hk5, hb5⟩ := hv2.appended (by decide) hrow2 (by omega) hbl hown3 hg3
  refine ⟨⟨hv2.cell, (hv2.alloc _).cell⟩, A3, c3, w3, hrun, hv4.cell, hv4.frozen, hv5, hr5, ?_, (hbe.mono hn).trans hb5, ?_⟩
  · exact (KeepsOthers.of_grownBy hg (fun j o e => by cases e)).trans hk5
  · intro bx t u ht hne hb
    have h2 := hb.kept hg (by simp)
    exact (((h2.alloc _).kept hg3 (h2.not_row ht hrow2))).other hne _

set_option maxRecDepth 100000 in
set_option maxHeartbeats 2000000 in
theorem words_even (A : Option Addr) (len cap : Nat) (ws : List UInt8) (hl : ws.length = len) (hlc : len ≤ cap) (hlen : len ≤ 20000) (hev : len % 2 = 0) (w : World) (hL : Lies u8v w A ws) :
    Calls Tryz.prog 152 #[.slice A len cap] w (WordsPost w ws) := by
  have HW : Hid (Word.isWords ws = true) := qh (by unfold Word.isWords; rw [hl, hev]; rfl)
  subst hl
  obtain ⟨b, off, hA⟩ : ∃ b off, 0 < ws.length → A = some ⟨b, off, none⟩ ∧ b < w.heap.size ∧ Lies u8v w (some ⟨b, off, none⟩) ws := by
    rcases Nat.eq_zero_or_pos ws.length with h | h
    · exact ⟨0, 0, fun h' => by omega⟩
    · obtain ⟨b, off, rfl, hb, _⟩ := hL.at_ h
      exact ⟨b, off, fun _ => ⟨rfl, hb, hL⟩⟩
  obtain ⟨i0, hi0, hz0, hz1, hz2⟩ := info_parts kit16.hi
  refine (callsIn_wide (n := 5)).1 ?_
  refine callsIn_of_wp_marks Tryz.func152 rfl trivial ?_ rfl
  simp only [Tryz.ntmps152, List.size_toArray, List.length_cons, List.length_nil, Nat.reduceAdd, Nat.reduceSub, Array.replicate_succ, Array.replicate_zero, List.push_toArray, List.append_toArray, List.nil_append, List.cons_append]
  gi_wp2_with (first
    | (gi_at_make; go_must (refine wpListIn_make_own _ rfl _ _ 36 rfl w.heap.size 38 i0 (.int .u16 0) 1 kit16.ht hi0 hz0 hz1 .i64 .i64 _ (ws.length / 2) rfl rfl (by omega) (by rw [hz2]; omega) (by unfold maxLen; omega) (by simp) ?_); intro w1 hown1 hg1)
    | (refine ⟨trivial, ?_⟩; gi_at_call 171; go_must (refine (callsIn_wide.2 (chunk_any A ws.length cap _)).mono ?_; rintro e w2 ⟨rfl, hw2⟩)))
  have hb1 : Below w.heap.size w w1 := (Below.refl _ w).grown hg1 (by simp) (by simp)
  generalize Value.slice (some { block := w.heap.size, off := 0 }) 0 (ws.length / 2) = v0 at *
  have bA := Boxed.new w1 36 v0
  have bS := Boxed.new (w1.alloc (.cells #[v0] 36)) 41 (.slice A ws.length cap)
  have bM := Boxed.new ((w1.alloc (.cells #[v0] 36)).alloc (.cells #[.slice A ws.length cap] 41)) 3 (.int .i64 2)
  rw [World.size_alloc] at bS bM
  rw [World.size_alloc] at bM
  have hB0 : Below w.heap.size w (((w1.alloc (.cells #[v0] 36)).alloc (.cells #[.slice A ws.length cap] 41)).alloc (.cells #[.int .i64 2] 3)) := ((hb1.alloc hb1.size _).alloc (by simp; have := hb1.size; omega) _).alloc (by simp; have := hb1.size; omega) _
  have hz1' := hb1.size
  clear hw2
  obtain ⟨W0, hW0⟩ : ∃ W0, ((w1.alloc (.cells #[v0] 36)).alloc (.cells #[.slice A ws.length cap] 41)).alloc (.cells #[.int .i64 2] 3) = W0 := ⟨_, rfl⟩
  have bS := bS.alloc (.cells #[.int .i64 2] 3)
  have bA := (bA.alloc (.cells #[.slice A ws.length cap] 41)).alloc (.cells #[.int .i64 2] 3)
  have hown0 := ((hown1.alloc (.cells #[v0] 36)).alloc (.cells #[.slice A ws.length cap] 41)).alloc (.cells #[.int .i64 2] 3)
  have hz0' : W0.heap.size = w1.heap.size + 3 := by rw [← hW0]; simp
  rw [hW0] at bA bS bM hown0 hB0 ⊢
  clear hW0 hown1
  have hz2' := hB0.size
  have hcS := bS.cell
  have hcM := bM.cell
  have hK1 : (List.finRange (ws.length / 2)).length = (ws.length + 1) / 2 := by rw [List.length_finRange]; omega
  have hK2 : ∀ k (hk : k < (List.finRange (ws.length / 2)).length), (fun k : Fin (ws.length / 2) => Value.slice (some ⟨b, off + 2 * k.val, none⟩) 2 2) (List.finRange (ws.length / 2))[k] = part b off 2 ws.length k := fun k hk => by
    rw [List.length_finRange] at hk
    have hm2 : min 2 (ws.length - 2 * k) = 2 := by omega
    simp only [List.getElem_finRange, part, hm2, Fin.val_cast]
  have hseq := chunk_stops (5 - 1) (by omega) (fun k : Fin (ws.length / 2) => Value.slice (some ⟨b, off + 2 * k.val, none⟩) 2 2) (w1.heap.size + 1) (w1.heap.size + 1 + 1) w.heap.size ws.length cap hlc A (List.finRange _) (by omega) W0 (by omega) (by omega) hcS hcM hK1 (fun h => ⟨b, off, (hA h).1, hK2⟩)
  have hput := KeepsTwo.put (n₀ := w.heap.size) (x := w1.heap.size + 1) (y := w1.heap.size + 1 + 1) (w := W0) (by omega) (by omega) (by omega)
  have hI := words_own (ws.length / 2) W0.heap.size w.heap.size w1.heap.size (w1.heap.size + 1) (w1.heap.size + 1 + 1) w (.slice A ws.length cap) (Word.wordAt ws) (zq _) (by omega)
  refine wpIn_rangeFunc_ownG rfl (by omega) (gf := 177) (lb := #[.pointer (some ⟨w1.heap.size + 1, 0, none⟩), .pointer (some ⟨w1.heap.size + 1 + 1, 0, none⟩)]) rfl trivial (enters_of Tryz.func177 (by kernel_rfl) rfl)
    hseq KeepsTwo.trans hput (Below.refl _ _) (fun _ => rfl)
    (wordsI (ws.length / 2) w.heap.size w1.heap.size (w1.heap.size + 1) (w1.heap.size + 1 + 1) w (.slice A ws.length cap) (Word.wordAt ws))
    (fun _ _ _ => False) hI (fun _ _ _ _ _ hs _ _ => hs)
    ⟨⟨⟨⟨_, bA, hown0, trivial⟩, bS⟩, bM⟩, hB0⟩
    (fun x => { tmps := #[.slice A ws.length cap, undef, .slice none 0 0, .bool false, .pointer (some ⟨w1.heap.size, 0, none⟩), .slice (some ⟨b, off + 2 * x.val, none⟩) 2 2, .slice A ws.length cap, .int .i64 ws.length, .int .i64 ((ws.length : Int) % 2), .bool false, .slice A ws.length cap, .int .i64 ws.length, .int .i64 ((ws.length : Int) / 2), v0, .slice A ws.length cap, .func (.func 177) #[] #[.pointer (some ⟨w1.heap.size + 1, 0, none⟩), .pointer (some ⟨w1.heap.size + 1 + 1, 0, none⟩)], .slice (some ⟨b, off + 2 * x.val, none⟩) 2 2, undef, undef, undef, undef, undef, undef, undef, undef], defers := [] }) ?assign ?body ?done ?stop
  case assign =>
    intro l x W K hK
    gi_wp2
    exact hK
  case body =>
    rintro l pre x W ⟨⟨⟨⟨v, hv, hrow, -⟩, hS⟩, hM⟩, hB⟩ hlt
    have hc := hv.cell
    have hx := x.isLt
    have hlt' : pre.length < ws.length / 2 := by simpa using hlt
    have hL0 : Lies u8v W (some ⟨b, off, none⟩) ws := ((hA (by omega)).2.2).below hB (zq _)
    have hca : W.cell? ⟨b, off + 2 * x.val, none⟩ = some (u8v (ws.getD (2 * x.val) 0)) := by rw [hL0.row (2 * x.val) (by omega), List.getD_eq_getElem?_getD, List.getElem?_eq_getElem (by omega)]; rfl
    have hcb : W.cell? ⟨b, off + 2 * x.val + 1, none⟩ = some (u8v (ws.getD (2 * x.val + 1) 0)) := by rw [Nat.add_assoc, hL0.row (2 * x.val + 1) (by omega), List.getD_eq_getElem?_getD, List.getElem?_eq_getElem (by omega)]; rfl
    have hmx : Tryz.prog.follows .mixedOrders = true := by kernel_rfl
    have hat := fun (w : World) (a : Option Addr) => run_arrayAt (P := Tryz.prog) w 184 5 2 a 2 2 Tryz.underlying184 (zq 2)
    have hg := fun w => get_any (ws.getD (2 * x.val) 0) (ws.getD (2 * x.val + 1) 0) w
    have HW2 : Hid (Word.wordAt ws x.val = Word.word (ws.getD (2 * x.val) 0) (ws.getD (2 * x.val + 1) 0)) := qh rfl
    unfold u8v at hca hcb
    unfold u8v u16v at hg
    generalize ws.getD (2 * x.val) 0 = c0 at *
    generalize ws.getD (2 * x.val + 1) 0 = c1 at *
    gi_wp2
    have hrowd : World.ownsRow W.drew w.heap.size 38 1 v pre.length ((pre.map fun k => Word.wordAt ws k.val).map u16v) := hrow
    have hvd : Boxed W.drew w1.heap.size 36 v := hv
    have hnd : w.heap.size ≤ W.drew.heap.size := hB.size
    obtain ⟨y, hy⟩ : ∃ y, Word.wordAt ws x.val = y := ⟨_, rfl⟩
    rw [hy] at HW2
    rw [← HW2.out] at hg
    have hend : ∀ (a : Act) (W' : World) {u : Value}, Boxed W' w1.heap.size 36 u → W'.ownsRow w.heap.size 38 1 u (pre.length + 1) (((pre.map fun k => Word.wordAt ws k.val) ++ [y]).map u16v) → KeepsOthers W.drew W' → Below w.heap.size W.drew W' →
        (∀ bx t u, t ≠ 38 → bx ≠ w1.heap.size → Boxed W.drew bx t u → Boxed W' bx t u) → Exit.inBlock 1 (ownPostG W0.heap.size (KeepsTwo w.heap.size (w1.heap.size + 1) (w1.heap.size + 1 + 1)) (wordsI (ws.length / 2) w.heap.size w1.heap.size (w1.heap.size + 1) (w1.heap.size + 1 + 1) w (.slice A ws.length cap) (Word.wordAt ws)) (fun _ _ _ => False) (pre ++ [x]) W) .normal a W' := by
      intro a W' u h1 h2 h3 h4 h5
      have hS' := h5 _ _ _ (by decide) (by omega) (show Boxed W.drew _ _ _ from hS)
      have hM' := h5 _ _ _ (by decide) (by omega) (show Boxed W.drew _ _ _ from hM)
      have hbd : Below w.heap.size W W.drew := drewN_below (Below.refl _ W) 1
      refine ⟨(KeepsOthers.drew W |>.trans h3).from _, ⟨hbd.trans h4, (show _ = _ from hS').trans (show _ = _ from hS).symm, (show _ = _ from hM').trans (show _ = _ from hM).symm⟩, ⟨⟨⟨_, h1, ?_, trivial⟩, hS'⟩, hM'⟩, hB.trans (hbd.trans h4)⟩
      rw [List.map_append, List.length_append, List.length_singleton, List.map_cons, List.map_nil, hy]
      exact h2
    refine wpIn_region_any (by assumption) ?_
    try (change wpAnyIn _ _ _ _ _ _ _ _ _ (World.drew _))
    refine wpAnyIn_ready (rs := [0, 1]) (by decide +kernel) (by simp) ?_
    refine AllReadyIn.cons rfl (fun K hK => ?_) (AllReadyIn.cons rfl (fun K hK => ?_) AllReadyIn.nil)
    · go_simp; refine hK _ _ ?_; clear hK K
      refine wpAnyIn_ready (rs := [1]) (by decide +kernel) (by simp) ?_
      refine AllReadyIn.cons rfl (fun K hK => ?_) AllReadyIn.nil
      go_simp; refine hK _ _ ?_; clear hK K
      refine wpAnyIn_ready (rs := [2]) (by decide +kernel) (by simp) ?_
      refine AllReadyIn.cons rfl (fun K hK => ?_) AllReadyIn.nil
      go_simp; refine hK _ _ ?_; clear hK K
      refine wpAnyIn_ready (rs := [3]) (by decide +kernel) (by simp) ?_
      refine AllReadyIn.cons rfl (fun K hK => ?_) AllReadyIn.nil
      go_simp; refine hK _ _ ?_; clear hK K
      refine wpAnyIn_ready (rs := [4]) (by decide +kernel) (by simp) ?_
      refine AllReadyIn.cons rfl (fun K hK => ?_) AllReadyIn.nil
      go_simp; refine ⟨trivial, ?_⟩; refine (CallsIn.inRound l (callsIn_wide.2 (hg _))).mono ?_; rintro e w2 ⟨rfl, hbe2⟩; dsimp only; refine hK _ _ ?_; clear hK K; obtain ⟨⟨hc2, hc6⟩, A3, c3, w3, hrun, hc3, hf3, hv5, hr5, hk5, hb5, ho5⟩ := words_round w.heap.size w1.heap.size pre.length v _ y W.drew w2 hvd hrowd hnd hb1.size (by omega) hbe2
      refine wpAnyIn_ready (rs := [5]) (by decide +kernel) (by simp) ?_
      refine AllReadyIn.cons rfl (fun K hK => ?_) AllReadyIn.nil
      go_simp; refine hK _ _ ?_; clear hK K
      refine wpAnyIn_ready (rs := [6]) (by decide +kernel) (by simp) ?_
      refine AllReadyIn.cons rfl (fun K hK => ?_) AllReadyIn.nil
      refine stepIn_append rfl (.tmp 17) (.tmp 22) 36 rfl _ _ _ _ rfl rfl hrun (hK _ _ ?_); clear hK K
      refine wpAnyIn_ready (rs := [7]) (by decide +kernel) (by simp) ?_
      refine AllReadyIn.cons rfl (fun K hK => ?_) AllReadyIn.nil
      go_simp; refine hK _ _ ?_; clear hK K
      refine wpAnyIn_done (by decide +kernel) ?_ _
      exact hend _ _ hv5 hr5 hk5 hb5 ho5
    · go_simp; refine hK _ _ ?_; clear hK K
      refine wpAnyIn_ready (rs := [0, 2]) (by decide +kernel) (by simp) ?_
      refine AllReadyIn.cons rfl (fun K hK => ?_) (AllReadyIn.cons rfl (fun K hK => ?_) AllReadyIn.nil)
      · go_simp; refine hK _ _ ?_; clear hK K
        refine wpAnyIn_ready (rs := [2]) (by decide +kernel) (by simp) ?_
        refine AllReadyIn.cons rfl (fun K hK => ?_) AllReadyIn.nil
        go_simp; refine hK _ _ ?_; clear hK K
        refine wpAnyIn_ready (rs := [3]) (by decide +kernel) (by simp) ?_
        refine AllReadyIn.cons rfl (fun K hK => ?_) AllReadyIn.nil
        go_simp; refine hK _ _ ?_; clear hK K
        refine wpAnyIn_ready (rs := [4]) (by decide +kernel) (by simp) ?_
        refine AllReadyIn.cons rfl (fun K hK => ?_) AllReadyIn.nil
        go_simp; refine ⟨trivial, ?_⟩; refine (CallsIn.inRound l (callsIn_wide.2 (hg _))).mono ?_; rintro e w2 ⟨rfl, hbe2⟩; dsimp only; refine hK _ _ ?_; clear hK K; obtain ⟨⟨hc2, hc6⟩, A3, c3, w3, hrun, hc3, hf3, hv5, hr5, hk5, hb5, ho5⟩ := words_round w.heap.size w1.heap.size pre.length v _ y W.drew w2 hvd hrowd hnd hb1.size (by omega) hbe2
        refine wpAnyIn_ready (rs := [5]) (by decide +kernel) (by simp) ?_
        refine AllReadyIn.cons rfl (fun K hK => ?_) AllReadyIn.nil
        go_simp; refine hK _ _ ?_; clear hK K
        refine wpAnyIn_ready (rs := [6]) (by decide +kernel) (by simp) ?_
        refine AllReadyIn.cons rfl (fun K hK => ?_) AllReadyIn.nil
        refine stepIn_append rfl (.tmp 17) (.tmp 22) 36 rfl _ _ _ _ rfl rfl hrun (hK _ _ ?_); clear hK K
        refine wpAnyIn_ready (rs := [7]) (by decide +kernel) (by simp) ?_
        refine AllReadyIn.cons rfl (fun K hK => ?_) AllReadyIn.nil
        go_simp; refine hK _ _ ?_; clear hK K
        refine wpAnyIn_done (by decide +kernel) ?_ _
        exact hend _ _ hv5 hr5 hk5 hb5 ho5
      · go_simp; refine hK _ _ ?_; clear hK K
        refine wpAnyIn_ready (rs := [0, 3]) (by decide +kernel) (by simp) ?_
        refine AllReadyIn.cons rfl (fun K hK => ?_) (AllReadyIn.cons rfl (fun K hK => ?_) AllReadyIn.nil)
        · go_simp; refine hK _ _ ?_; clear hK K
          refine wpAnyIn_ready (rs := [3]) (by decide +kernel) (by simp) ?_
          refine AllReadyIn.cons rfl (fun K hK => ?_) AllReadyIn.nil
          go_simp; refine hK _ _ ?_; clear hK K
          refine wpAnyIn_ready (rs := [4]) (by decide +kernel) (by simp) ?_
          refine AllReadyIn.cons rfl (fun K hK => ?_) AllReadyIn.nil
          go_simp; refine ⟨trivial, ?_⟩; refine (CallsIn.inRound l (callsIn_wide.2 (hg _))).mono ?_; rintro e w2 ⟨rfl, hbe2⟩; dsimp only; refine hK _ _ ?_; clear hK K; obtain ⟨⟨hc2, hc6⟩, A3, c3, w3, hrun, hc3, hf3, hv5, hr5, hk5, hb5, ho5⟩ := words_round w.heap.size w1.heap.size pre.length v _ y W.drew w2 hvd hrowd hnd hb1.size (by omega) hbe2
          refine wpAnyIn_ready (rs := [5]) (by decide +kernel) (by simp) ?_
          refine AllReadyIn.cons rfl (fun K hK => ?_) AllReadyIn.nil
          go_simp; refine hK _ _ ?_; clear hK K
          refine wpAnyIn_ready (rs := [6]) (by decide +kernel) (by simp) ?_
          refine AllReadyIn.cons rfl (fun K hK => ?_) AllReadyIn.nil
          refine stepIn_append rfl (.tmp 17) (.tmp 22) 36 rfl _ _ _ _ rfl rfl hrun (hK _ _ ?_); clear hK K
          refine wpAnyIn_ready (rs := [7]) (by decide +kernel) (by simp) ?_
          refine AllReadyIn.cons rfl (fun K hK => ?_) AllReadyIn.nil
          go_simp; refine hK _ _ ?_; clear hK K
          refine wpAnyIn_done (by decide +kernel) ?_ _
          exact hend _ _ hv5 hr5 hk5 hb5 ho5
        · go_simp; refine hK _ _ ?_; clear hK K
          refine wpAnyIn_ready (rs := [0, 4]) (by decide +kernel) (by simp) ?_
          refine AllReadyIn.cons rfl (fun K hK => ?_) (AllReadyIn.cons rfl (fun K hK => ?_) AllReadyIn.nil)
          · go_simp; refine hK _ _ ?_; clear hK K
            refine wpAnyIn_ready (rs := [4]) (by decide +kernel) (by simp) ?_
            refine AllReadyIn.cons rfl (fun K hK => ?_) AllReadyIn.nil
            go_simp; refine ⟨trivial, ?_⟩; refine (CallsIn.inRound l (callsIn_wide.2 (hg _))).mono ?_; rintro e w2 ⟨rfl, hbe2⟩; dsimp only; refine hK _ _ ?_; clear hK K; obtain ⟨⟨hc2, hc6⟩, A3, c3, w3, hrun, hc3, hf3, hv5, hr5, hk5, hb5, ho5⟩ := words_round w.heap.size w1.heap.size pre.length v _ y W.drew w2 hvd hrowd hnd hb1.size (by omega) hbe2
            refine wpAnyIn_ready (rs := [5]) (by decide +kernel) (by simp) ?_
            refine AllReadyIn.cons rfl (fun K hK => ?_) AllReadyIn.nil
            go_simp; refine hK _ _ ?_; clear hK K
            refine wpAnyIn_ready (rs := [6]) (by decide +kernel) (by simp) ?_
            refine AllReadyIn.cons rfl (fun K hK => ?_) AllReadyIn.nil
            refine stepIn_append rfl (.tmp 17) (.tmp 22) 36 rfl _ _ _ _ rfl rfl hrun (hK _ _ ?_); clear hK K
            refine wpAnyIn_ready (rs := [7]) (by decide +kernel) (by simp) ?_
            refine AllReadyIn.cons rfl (fun K hK => ?_) AllReadyIn.nil
            go_simp; refine hK _ _ ?_; clear hK K
            refine wpAnyIn_done (by decide +kernel) ?_ _
            exact hend _ _ hv5 hr5 hk5 hb5 ho5
          · go_simp; refine ⟨trivial, ?_⟩; refine (CallsIn.inRound l (callsIn_wide.2 (hg _))).mono ?_; rintro e w2 ⟨rfl, hbe2⟩; dsimp only; refine hK _ _ ?_; clear hK K; obtain ⟨⟨hc2, hc6⟩, A3, c3, w3, hrun, hc3, hf3, hv5, hr5, hk5, hb5, ho5⟩ := words_round w.heap.size w1.heap.size pre.length v _ y W.drew w2 hvd hrowd hnd hb1.size (by omega) hbe2
            refine wpAnyIn_ready (rs := [0, 5]) (by decide +kernel) (by simp) ?_
            refine AllReadyIn.cons rfl (fun K hK => ?_) (AllReadyIn.cons rfl (fun K hK => ?_) AllReadyIn.nil)
            · go_simp; refine hK _ _ ?_; clear hK K
              refine wpAnyIn_ready (rs := [5]) (by decide +kernel) (by simp) ?_
              refine AllReadyIn.cons rfl (fun K hK => ?_) AllReadyIn.nil
              go_simp; refine hK _ _ ?_; clear hK K
              refine wpAnyIn_ready (rs := [6]) (by decide +kernel) (by simp) ?_
              refine AllReadyIn.cons rfl (fun K hK => ?_) AllReadyIn.nil
              refine stepIn_append rfl (.tmp 17) (.tmp 22) 36 rfl _ _ _ _ rfl rfl hrun (hK _ _ ?_); clear hK K
              refine wpAnyIn_ready (rs := [7]) (by decide +kernel) (by simp) ?_
              refine AllReadyIn.cons rfl (fun K hK => ?_) AllReadyIn.nil
              go_simp; refine hK _ _ ?_; clear hK K
              refine wpAnyIn_done (by decide +kernel) ?_ _
              exact hend _ _ hv5 hr5 hk5 hb5 ho5
            · go_simp; refine hK _ _ ?_; clear hK K
              refine wpAnyIn_ready (rs := [0]) (by decide +kernel) (by simp) ?_
              refine AllReadyIn.cons rfl (fun K hK => ?_) AllReadyIn.nil
              go_simp; refine hK _ _ ?_; clear hK K
              refine wpAnyIn_ready (rs := [6]) (by decide +kernel) (by simp) ?_
              refine AllReadyIn.cons rfl (fun K hK => ?_) AllReadyIn.nil
              refine stepIn_append rfl (.tmp 17) (.tmp 22) 36 rfl _ _ _ _ rfl rfl hrun (hK _ _ ?_); clear hK K
              refine wpAnyIn_ready (rs := [7]) (by decide +kernel) (by simp) ?_
              refine AllReadyIn.cons rfl (fun K hK => ?_) AllReadyIn.nil
              go_simp; refine hK _ _ ?_; clear hK K
              refine wpAnyIn_done (by decide +kernel) ?_ _
              exact hend _ _ hv5 hr5 hk5 hb5 ho5
  case done =>
    rintro D ys W hD rfl ⟨⟨⟨⟨v, hv, hrow, -⟩, hS⟩, hM⟩, hB⟩ hK
    have hc := hv.cell
    gi_wp2
    refine ⟨by simp, .inl ⟨_, _, rfl, run_takeDeferred hK, ?_⟩⟩
    rw [List.length_finRange, Word.fin_map] at hrow
    have hr := ownsRow_putObj hrow (.deferred none) hK rfl
    have hwl := Word.words_length ws
    unfold Word.words at hwl
    obtain ⟨A', c', rfl, _, h1, h2, h3⟩ := own_lies hr
    refine ⟨_, results_tmp2 (show Tryz.f152.results = #[.tmp 2, .tmp 3] from rfl) _ _ _, ?_⟩
    exact WordsPost.some _ _ _ A' _ c' HW.out hwl h1 h2 h3 (hB.trans (belowK_b (w := w) (zq _) W D _ _ (by omega) hK rfl rfl)) (fun b o s e _ => by subst e; exact (hr.lt b rfl).1)
  case stop =>
    rintro D c pre W _ _ h _
    exact h.elim

set_option maxRecDepth 100000 in
set_option maxHeartbeats 400000 in
theorem words_any (A : Option Addr) (n c : Nat) (l : List UInt8) (hn : l.length = n) (hnc : n ≤ c) (hm : n ≤ 20000) (w : World) (hb : Lies u8v w A l) :
    Calls Tryz.prog 152 #[.slice A n c] w (WordsPost w l) := by
  by_cases h2 : n % 2 = 0
  · exact words_even A n c l hn hnc hm h2 w hb
  · have HI : Hid (Word.isWords l = false) := qh (by unfold Word.isWords; rw [hn, beq_eq_false_iff_ne]; exact h2)
    have h3 : ((n : Int) % 2 != 0) = true := by rw [bne_iff_ne]; omega
    clear hn h2
    go_enter Tryz.func152, Tryz.ntmps152
    go_wp2
    go_ret2
    exact WordsPost.none _ _ _ HI.out (Below.refl _ _)
end Go.Proofs.YtlgmjnjhdamknaaGreat
