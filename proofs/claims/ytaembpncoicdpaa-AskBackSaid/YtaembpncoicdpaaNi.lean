
/-
  The landed ask: the function values of parts that are numbers.
-/
import Derived.Test.YtaembpncoicdpaaAt
namespace Go.Proofs.Ytaembpncoicdpaa
open Go.RowKit Go.Shelf


set_option maxRecDepth 100000 in
set_option maxHeartbeats 400000 in
theorem numILay (f : IF) (gof : Nat) (O : OfOK gof f.ix) (b0 b1 sz : Nat) (hs : sz = 1 ∨ sz = 2) (W : World) (c0 : W.cell? ⟨b0, 0, none⟩ = some (.func (.func gof) #[] #[])) (c1 : W.cell? ⟨b1, 0, none⟩ = some (.int .i64 (sz : Int))) (a : Ask) (h k : Option Addr × Nat × Nat) (x : UInt16) (hx : f.get a = (x.toNat : Int))
    (B : Nat) (v : Value) (n : Nat) (xs : List UInt8) (hown : W.ownsRow B 5 1 v n (xs.map u8v)) (hB : B ≤ W.heap.size) (hB0 : b0 < B) (hB1 : b1 < B) (hn : n ≤ 20000) :
    Calls Try.prog 81 #[v, askV a h k, .pointer (some ⟨b0, 0, none⟩), .pointer (some ⟨b1, 0, none⟩)] W fun e w' => ∃ A c, e = .returned (.slice A (n + sz) c) ∧ w'.ownsRow B 5 1 (.slice A (n + sz) c) (n + sz) ((xs ++ low x sz).map u8v) ∧ Below B W w' := by
  have eg := O.en
  have hO := O.ca
  have hc := box_cell W (askCells a h k) 26 _ _ (IF.cell f a h k)
  rw [hx] at hc
  unfold askCells at hc
  have l0 := World.block_lt_of_cell? _ _ c0
  have l1 := World.block_lt_of_cell? _ _ c1
  have hb1 : Below W.heap.size W (W.alloc (.cells #[.int .i64 a.code, .int .i64 a.addr, .int .i64 a.count, .int .i64 a.to, .slice h.1 h.2.1 h.2.2, .slice k.1 k.2.1 k.2.2, u16v a.and_, u16v a.or_] 26)) := (Below.refl _ _).alloc (Nat.le_refl _) _
  have d0 := (hb1.cell (p := ⟨b0, 0, none⟩) l0).trans c0
  have d1 := (hb1.cell (p := ⟨b1, 0, none⟩) l1).trans c1
  have HN : Hid (v.ownBlock ≠ some b0 ∧ v.ownBlock ≠ some b1 ∧ v.ownBlock ≠ some W.heap.size) := Lib.hid ⟨fun e => absurd (hown.lt _ e).1 (by omega), fun e => absurd (hown.lt _ e).1 (by omega), fun e => absurd (hown.lt _ e).2 (by omega)⟩
  have HP := Lib.hid (fun V (ho : World.ownsRow V B 5 1 v n (xs.map u8v)) (hz : B ≤ V.heap.size) => put6_any x sz hs B v n xs V ho hz (by omega))
  have hown1 := hown.alloc (.cells #[.int .i64 a.code, .int .i64 a.addr, .int .i64 a.count, .int .i64 a.to, .slice h.1 h.2.1 h.2.2, .slice k.1 k.2.1 k.2.2, u16v a.and_, u16v a.or_] 26)
  have hown1d : ((W.alloc (.cells #[.int .i64 a.code, .int .i64 a.addr, .int .i64 a.count, .int .i64 a.to, .slice h.1 h.2.1 h.2.2, .slice k.1 k.2.1 k.2.2, u16v a.and_, u16v a.or_] 26)).drew).ownsRow B 5 1 v n (xs.map u8v) := hown1
  have HZ : Hid (B ≤ ((W.alloc (.cells #[.int .i64 a.code, .int .i64 a.addr, .int .i64 a.count, .int .i64 a.to, .slice h.1 h.2.1 h.2.2, .slice k.1 k.2.1 k.2.2, u16v a.and_, u16v a.or_] 26)).drew).heap.size) := Lib.hid (Nat.le_trans hB hb1.size)
  have HB : Hid (Below B W ((W.alloc (.cells #[.int .i64 a.code, .int .i64 a.addr, .int .i64 a.count, .int .i64 a.to, .slice h.1 h.2.1 h.2.2, .slice k.1 k.2.1 k.2.2, u16v a.and_, u16v a.or_] 26)).drew)) := Lib.hid (drewN_below (hb1.mono hB) 1)
  have hxl := x.toNat_lt
  have e0 : ((W.alloc (.cells #[.int .i64 a.code, .int .i64 a.addr, .int .i64 a.count, .int .i64 a.to, .slice h.1 h.2.1 h.2.2, .slice k.1 k.2.1 k.2.2, u16v a.and_, u16v a.or_] 26)).drew).cell? ⟨b0, 0, none⟩ = some (.func (.func gof) #[] #[]) := d0
  have e1 : ((W.alloc (.cells #[.int .i64 a.code, .int .i64 a.addr, .int .i64 a.count, .int .i64 a.to, .slice h.1 h.2.1 h.2.2, .slice k.1 k.2.1 k.2.2, u16v a.and_, u16v a.or_] 26)).drew).cell? ⟨b1, 0, none⟩ = some (.int .i64 (sz : Int)) := d1
  have e2 : ((W.alloc (.cells #[.int .i64 a.code, .int .i64 a.addr, .int .i64 a.count, .int .i64 a.to, .slice h.1 h.2.1 h.2.2, .slice k.1 k.2.1 k.2.2, u16v a.and_, u16v a.or_] 26)).drew).cell? ⟨W.heap.size, f.ix, none⟩ = some (.int .i64 (x.toNat : Int)) := hc
  have i6 : IntKind.i64.wrap (x.toNat : Int) = (x.toNat : Int) := by rw [IntKind.wrap_i64]; omega
  generalize f.ix = i at *
  clear hown hown1 hx hb1
  unfold Enters at eg
  rw [askV_eq]
  go_enter Try.func81, Try.ntmps81
  go_wp2_with fail
  go_region_held3 (fun V => V.cell? ⟨b0, 0, none⟩ = some (.func (.func gof) #[] #[]) ∧ V.cell? ⟨b1, 0, none⟩ = some (.int .i64 (sz : Int)) ∧ V.cell? ⟨W.heap.size, i, none⟩ = some (.int .i64 (x.toNat : Int))) (first | with_reducible assumption | exact ⟨e0, e1, e2⟩ | with_reducible exact ⟨f0, f1, f2⟩ | fail) (first | (go_at_fn gof; (with_reducible refine (hO _ _).mono ?_); rintro e w' ⟨rfl, rfl⟩) | (go_at_call 58; (with_reducible refine (HP.out _ hown1d HZ.out).mono ?_); rintro e w' ⟨A2, c2, rfl, hk1, hk2, hk3, hk4⟩; have f0 := grown_cell hk3 e0 HN.out.1; have f1 := grown_cell hk3 e1 HN.out.2.1; have f2 := grown_cell hk3 e2 HN.out.2.2) | fail)
  go_wp2_with fail
  go_ret
  exact ⟨A2, c2, rfl, hk1, HB.out.trans hk2⟩

set_option maxRecDepth 100000 in
set_option maxHeartbeats 400000 in
theorem numIDrop (f : IF) (gof : Nat) (O : OfOK gof f.ix) (b0 : Nat) (W : World) (c0 : W.cell? ⟨b0, 0, none⟩ = some (.func (.func gof) #[] #[])) (q : Nat) {S : Nat → Prop} (a : Ask) (h k : Option Addr × Nat × Nat) (x : AskAt W q S a h k) :
    Calls Try.prog 83 #[.pointer (some ⟨q, 0, none⟩), .pointer (some ⟨b0, 0, none⟩)] W fun e w' => (∃ v, e = .returned v) ∧ AskAt w' q S (f.set a 0) h k ∧ But [q] W w' := by
  have eg := O.en
  have hO := O.ca
  have hc := x.cell (IF.cell f a h k)
  have hf := x.free f.ix
  have HS := Lib.hid (x.setI f 0)
  have HB := Lib.hid (But.one W q f.ix (.int .i64 0))
  unfold u16v at *
  generalize f.ix = i at *
  unfold Enters at eg
  go_enter Try.func83, Try.ntmps83
  go_wp2_with (go_at_fn gof; refine (hO _ _).mono ?_; rintro e w' ⟨rfl, rfl⟩)
  refine bodyPost_end (results_none rfl _ _ _) rfl ?_
  exact ⟨⟨_, rfl⟩, HS.out, HB.out⟩

set_option maxRecDepth 100000 in
set_option maxHeartbeats 400000 in
theorem numIRead (f : IF) (gof : Nat) (O : OfOK gof f.ix) (b0 b1 : Nat) (sz : Nat) (hs : sz = 1 ∨ sz = 2) (lo hi : Int) (w0 W : World) (c0 : W.cell? ⟨b0, 0, none⟩ = some (.func (.func gof) #[] #[])) (c1 : W.cell? ⟨b1, 0, none⟩ = some (.int .i64 (sz : Int))) (hw : Below w0.heap.size w0 W) (A : Option Addr) (n c : Nat) (b : List UInt8) (hn : b.length = n) (hnc : n ≤ c) (hcm : c ≤ maxLen) (hm : n ≤ 10000) (hb : Lies u8v w0 A b) (q : Nat) {S : Nat → Prop} (a : Ask) (h k : Option Addr × Nat × Nat) (x : AskAt W q S a h k) :
    Calls Try.prog 82 #[.slice A n c, .pointer (some ⟨q, 0, none⟩), .pointer (some ⟨b1, 0, none⟩), .pointer (some ⟨b0, 0, none⟩)] W (ReadPost w0 W q S (.num f sz lo hi) b a) := by
  have eg := O.en
  have hO := O.ca
  have hC := cut6_any A n c sz hs b hn hnc hcm (by omega) W (hb.below hw (Nat.le_refl _))
  unfold Enters at eg
  by_cases hlt : n < sz
  · have HC : Hid (Calls Try.prog 60 #[.slice A n c, .int .i64 (sz : Int)] W fun e w' => e = .returned (.tuple #[.int .i64 0, .slice none 0 0, .bool false]) ∧ Below W.heap.size W w') := Lib.hid (hC.mono fun e w' hh => by
      unfold CutPost at hh
      rw [if_pos hlt] at hh
      exact ⟨hh.2, hh.1⟩)
    have HR : Hid (PK.read b a (.num f sz lo hi) = none) := Lib.hid (by unfold PK.read; dsimp only; rw [if_pos (by omega)])
    clear hC hn
    go_enter Try.func82, Try.ntmps82
    go_wp2_with fail
    refine HC.out.mono ?_
    rintro e w1 ⟨rfl, hb1⟩
    have x1 := x.below hb1
    have d0 := (hb1.cell (p := ⟨b0, 0, none⟩) (World.block_lt_of_cell? _ _ c0)).trans c0
    have hc := x1.cell (IF.cell f a h k)
    have hf := x1.free f.ix
    have HS := Lib.hid (x1.setI f 0)
    have HB := Lib.hid ((But.of_below hb1 (Nat.le_refl _) [q]).trans (But.one w1 q f.ix (.int .i64 0)))
    unfold u16v at *
    generalize f.ix = i at *
    go_wp2_with (go_at_fn gof; refine (hO _ _).mono ?_; rintro e w' ⟨rfl, rfl⟩)
    go_ret2
    exact ReadPost.no _ _ _ HR.out HS.out HB.out
  · have HC : Hid (Calls Try.prog 60 #[.slice A n c, .int .i64 (sz : Int)] W fun e w' => (∃ A' m c', e = .returned (.tuple #[.int .i64 ((cutN b sz).toNat : Int), .slice A' m c', .bool true]) ∧ (b.drop sz).length = m ∧ m ≤ c' ∧ c' ≤ maxLen ∧ Lies u8v w0 A' (b.drop sz)) ∧ Below W.heap.size W w') := Lib.hid (hC.mono fun e w' hh => by
      unfold CutPost at hh
      rw [if_neg hlt] at hh
      obtain ⟨h1, A', m, c', h2, h3, h4, h5, h6⟩ := hh
      exact ⟨⟨A', m, c', h2, h3, h4, h5, h6 _ hb⟩, h1⟩)
    have HR : Hid (PK.read b a (.num f sz lo hi) = some (b.drop sz, f.set a ((cutN b sz).toNat : Int))) := Lib.hid (by unfold PK.read; dsimp only; rw [if_neg (by omega)])
    have hv := (cutN b sz).toNat_lt
    clear hC hn
    go_enter Try.func82, Try.ntmps82
    go_wp2_with fail
    refine HC.out.mono ?_
    rintro e w1 ⟨⟨A', m, c', rfl, k1, k2, k3, k4⟩, hb1⟩
    have x1 := x.below hb1
    have d0 := (hb1.cell (p := ⟨b0, 0, none⟩) (World.block_lt_of_cell? _ _ c0)).trans c0
    have hc := x1.cell (IF.cell f a h k)
    have hf := x1.free f.ix
    have HS := Lib.hid (x1.setI f ((cutN b sz).toNat : Int))
    have HB := Lib.hid ((But.of_below hb1 (Nat.le_refl _) [q]).trans (But.one w1 q f.ix (.int .i64 ((cutN b sz).toNat : Int))))
    unfold u16v at *
    generalize f.ix = i at *
    generalize hV : cutN b sz = V at *
    have i5 : (V.toNat : Int) % 65536 = (V.toNat : Int) := by omega
    go_wp2_with (go_at_fn gof; refine (hO _ _).mono ?_; rintro e w' ⟨rfl, rfl⟩)
    go_ret2
    exact ReadPost.yes HR.out HS.out HB.out k1 k2 k3 k4

set_option maxRecDepth 100000 in
set_option maxHeartbeats 400000 in
theorem numULay (f : UF) (gof : Nat) (O : OfOK gof f.ix) (b0 b1 sz : Nat) (hs : sz = 1 ∨ sz = 2) (W : World) (c0 : W.cell? ⟨b0, 0, none⟩ = some (.func (.func gof) #[] #[])) (c1 : W.cell? ⟨b1, 0, none⟩ = some (.int .i64 (sz : Int))) (a : Ask) (h k : Option Addr × Nat × Nat) (x : UInt16) (hx : f.get a = x)
    (B : Nat) (v : Value) (n : Nat) (xs : List UInt8) (hown : W.ownsRow B 5 1 v n (xs.map u8v)) (hB : B ≤ W.heap.size) (hB0 : b0 < B) (hB1 : b1 < B) (hn : n ≤ 20000) :
    Calls Try.prog 96 #[v, askV a h k, .pointer (some ⟨b0, 0, none⟩), .pointer (some ⟨b1, 0, none⟩)] W fun e w' => ∃ A c, e = .returned (.slice A (n + sz) c) ∧ w'.ownsRow B 5 1 (.slice A (n + sz) c) (n + sz) ((xs ++ low x sz).map u8v) ∧ Below B W w' := by
  have eg := O.en
  have hO := O.ca
  have hc := box_cell W (askCells a h k) 26 _ _ (UF.cell f a h k)
  rw [hx] at hc
  unfold u16v at hc
  unfold askCells at hc
  have l0 := World.block_lt_of_cell? _ _ c0
  have l1 := World.block_lt_of_cell? _ _ c1
  have hb1 : Below W.heap.size W (W.alloc (.cells #[.int .i64 a.code, .int .i64 a.addr, .int .i64 a.count, .int .i64 a.to, .slice h.1 h.2.1 h.2.2, .slice k.1 k.2.1 k.2.2, u16v a.and_, u16v a.or_] 26)) := (Below.refl _ _).alloc (Nat.le_refl _) _
  have d0 := (hb1.cell (p := ⟨b0, 0, none⟩) l0).trans c0
  have d1 := (hb1.cell (p := ⟨b1, 0, none⟩) l1).trans c1
  have HN : Hid (v.ownBlock ≠ some b0 ∧ v.ownBlock ≠ some b1 ∧ v.ownBlock ≠ some W.heap.size) := Lib.hid ⟨fun e => absurd (hown.lt _ e).1 (by omega), fun e => absurd (hown.lt _ e).1 (by omega), fun e => absurd (hown.lt _ e).2 (by omega)⟩
  have HP := Lib.hid (fun V (ho : World.ownsRow V B 5 1 v n (xs.map u8v)) (hz : B ≤ V.heap.size) => put6_any x sz hs B v n xs V ho hz (by omega))
  have hown1 := hown.alloc (.cells #[.int .i64 a.code, .int .i64 a.addr, .int .i64 a.count, .int .i64 a.to, .slice h.1 h.2.1 h.2.2, .slice k.1 k.2.1 k.2.2, u16v a.and_, u16v a.or_] 26)
  have hown1d : ((W.alloc (.cells #[.int .i64 a.code, .int .i64 a.addr, .int .i64 a.count, .int .i64 a.to, .slice h.1 h.2.1 h.2.2, .slice k.1 k.2.1 k.2.2, u16v a.and_, u16v a.or_] 26)).drew).ownsRow B 5 1 v n (xs.map u8v) := hown1
  have HZ : Hid (B ≤ ((W.alloc (.cells #[.int .i64 a.code, .int .i64 a.addr, .int .i64 a.count, .int .i64 a.to, .slice h.1 h.2.1 h.2.2, .slice k.1 k.2.1 k.2.2, u16v a.and_, u16v a.or_] 26)).drew).heap.size) := Lib.hid (Nat.le_trans hB hb1.size)
  have HB : Hid (Below B W ((W.alloc (.cells #[.int .i64 a.code, .int .i64 a.addr, .int .i64 a.count, .int .i64 a.to, .slice h.1 h.2.1 h.2.2, .slice k.1 k.2.1 k.2.2, u16v a.and_, u16v a.or_] 26)).drew)) := Lib.hid (drewN_below (hb1.mono hB) 1)
  have hxl := x.toNat_lt
  have e0 : ((W.alloc (.cells #[.int .i64 a.code, .int .i64 a.addr, .int .i64 a.count, .int .i64 a.to, .slice h.1 h.2.1 h.2.2, .slice k.1 k.2.1 k.2.2, u16v a.and_, u16v a.or_] 26)).drew).cell? ⟨b0, 0, none⟩ = some (.func (.func gof) #[] #[]) := d0
  have e1 : ((W.alloc (.cells #[.int .i64 a.code, .int .i64 a.addr, .int .i64 a.count, .int .i64 a.to, .slice h.1 h.2.1 h.2.2, .slice k.1 k.2.1 k.2.2, u16v a.and_, u16v a.or_] 26)).drew).cell? ⟨b1, 0, none⟩ = some (.int .i64 (sz : Int)) := d1
  have e2 : ((W.alloc (.cells #[.int .i64 a.code, .int .i64 a.addr, .int .i64 a.count, .int .i64 a.to, .slice h.1 h.2.1 h.2.2, .slice k.1 k.2.1 k.2.2, u16v a.and_, u16v a.or_] 26)).drew).cell? ⟨W.heap.size, f.ix, none⟩ = some (.int .u16 (x.toNat : Int)) := hc
  have i6 : IntKind.i64.wrap (x.toNat : Int) = (x.toNat : Int) := by rw [IntKind.wrap_i64]; omega
  generalize f.ix = i at *
  clear hown hown1 hx hb1
  unfold Enters at eg
  rw [askV_eq]
  go_enter Try.func96, Try.ntmps96
  go_wp2_with fail
  go_region_held3 (fun V => V.cell? ⟨b0, 0, none⟩ = some (.func (.func gof) #[] #[]) ∧ V.cell? ⟨b1, 0, none⟩ = some (.int .i64 (sz : Int)) ∧ V.cell? ⟨W.heap.size, i, none⟩ = some (.int .u16 (x.toNat : Int))) (first | with_reducible assumption | exact ⟨e0, e1, e2⟩ | with_reducible exact ⟨f0, f1, f2⟩ | fail) (first | (go_at_fn gof; (with_reducible refine (hO _ _).mono ?_); rintro e w' ⟨rfl, rfl⟩) | (go_at_call 58; (with_reducible refine (HP.out _ hown1d HZ.out).mono ?_); rintro e w' ⟨A2, c2, rfl, hk1, hk2, hk3, hk4⟩; have f0 := grown_cell hk3 e0 HN.out.1; have f1 := grown_cell hk3 e1 HN.out.2.1; have f2 := grown_cell hk3 e2 HN.out.2.2) | fail)
  go_wp2_with fail
  go_ret
  exact ⟨A2, c2, rfl, hk1, HB.out.trans hk2⟩

set_option maxRecDepth 100000 in
set_option maxHeartbeats 400000 in
theorem numUDrop (f : UF) (gof : Nat) (O : OfOK gof f.ix) (b0 : Nat) (W : World) (c0 : W.cell? ⟨b0, 0, none⟩ = some (.func (.func gof) #[] #[])) (q : Nat) {S : Nat → Prop} (a : Ask) (h k : Option Addr × Nat × Nat) (x : AskAt W q S a h k) :
    Calls Try.prog 98 #[.pointer (some ⟨q, 0, none⟩), .pointer (some ⟨b0, 0, none⟩)] W fun e w' => (∃ v, e = .returned v) ∧ AskAt w' q S (f.set a 0) h k ∧ But [q] W w' := by
  have eg := O.en
  have hO := O.ca
  have hc := x.cell (UF.cell f a h k)
  have hf := x.free f.ix
  have HS := Lib.hid (x.setU f 0)
  have HB := Lib.hid (But.one W q f.ix (.int .u16 0))
  unfold u16v at *
  generalize f.ix = i at *
  unfold Enters at eg
  go_enter Try.func98, Try.ntmps98
  go_wp2_with (go_at_fn gof; refine (hO _ _).mono ?_; rintro e w' ⟨rfl, rfl⟩)
  refine bodyPost_end (results_none rfl _ _ _) rfl ?_
  exact ⟨⟨_, rfl⟩, HS.out, HB.out⟩

set_option maxRecDepth 100000 in
set_option maxHeartbeats 400000 in
theorem numURead (f : UF) (gof : Nat) (O : OfOK gof f.ix) (b0 b1 : Nat) (w0 W : World) (c0 : W.cell? ⟨b0, 0, none⟩ = some (.func (.func gof) #[] #[])) (c1 : W.cell? ⟨b1, 0, none⟩ = some (.int .i64 2)) (hw : Below w0.heap.size w0 W) (A : Option Addr) (n c : Nat) (b : List UInt8) (hn : b.length = n) (hnc : n ≤ c) (hcm : c ≤ maxLen) (hm : n ≤ 10000) (hb : Lies u8v w0 A b) (q : Nat) {S : Nat → Prop} (a : Ask) (h k : Option Addr × Nat × Nat) (x : AskAt W q S a h k) :
    Calls Try.prog 97 #[.slice A n c, .pointer (some ⟨q, 0, none⟩), .pointer (some ⟨b1, 0, none⟩), .pointer (some ⟨b0, 0, none⟩)] W (ReadPost w0 W q S (.mask f) b a) := by
  have eg := O.en
  have hO := O.ca
  have hC := cut6_any A n c 2 (.inr rfl) b hn hnc hcm (by omega) W (hb.below hw (Nat.le_refl _))
  unfold Enters at eg
  by_cases hlt : n < 2
  · have HC : Hid (Calls Try.prog 60 #[.slice A n c, .int .i64 2] W fun e w' => e = .returned (.tuple #[.int .i64 0, .slice none 0 0, .bool false]) ∧ Below W.heap.size W w') := Lib.hid (hC.mono fun e w' hh => by
      unfold CutPost at hh
      rw [if_pos hlt] at hh
      exact ⟨hh.2, hh.1⟩)
    have HR : Hid (PK.read b a (.mask f) = none) := Lib.hid (by unfold PK.read; dsimp only; rw [if_pos (by omega)])
    clear hC hn
    go_enter Try.func97, Try.ntmps97
    go_wp2_with fail
    refine HC.out.mono ?_
    rintro e w1 ⟨rfl, hb1⟩
    have x1 := x.below hb1
    have d0 := (hb1.cell (p := ⟨b0, 0, none⟩) (World.block_lt_of_cell? _ _ c0)).trans c0
    have hc := x1.cell (UF.cell f a h k)
    have hf := x1.free f.ix
    have HS := Lib.hid (x1.setU f 0)
    have HB := Lib.hid ((But.of_below hb1 (Nat.le_refl _) [q]).trans (But.one w1 q f.ix (.int .u16 0)))
    unfold u16v at *
    generalize f.ix = i at *
    go_wp2_with (go_at_fn gof; refine (hO _ _).mono ?_; rintro e w' ⟨rfl, rfl⟩)
    go_ret2
    exact ReadPost.no _ _ _ HR.out HS.out HB.out
  · have HC : Hid (Calls Try.prog 60 #[.slice A n c, .int .i64 2] W fun e w' => (∃ A' m c', e = .returned (.tuple #[.int .i64 ((cutN b 2).toNat : Int), .slice A' m c', .bool true]) ∧ (b.drop 2).length = m ∧ m ≤ c' ∧ c' ≤ maxLen ∧ Lies u8v w0 A' (b.drop 2)) ∧ Below W.heap.size W w') := Lib.hid (hC.mono fun e w' hh => by
      unfold CutPost at hh
      rw [if_neg hlt] at hh
      obtain ⟨h1, A', m, c', h2, h3, h4, h5, h6⟩ := hh
      exact ⟨⟨A', m, c', h2, h3, h4, h5, h6 _ hb⟩, h1⟩)
    have HR : Hid (PK.read b a (.mask f) = some (b.drop 2, f.set a (cutN b 2))) := Lib.hid (by unfold PK.read; dsimp only; rw [if_neg (by omega)])
    have hv := (cutN b 2).toNat_lt
    clear hC hn
    go_enter Try.func97, Try.ntmps97
    go_wp2_with fail
    refine HC.out.mono ?_
    rintro e w1 ⟨⟨A', m, c', rfl, k1, k2, k3, k4⟩, hb1⟩
    have x1 := x.below hb1
    have d0 := (hb1.cell (p := ⟨b0, 0, none⟩) (World.block_lt_of_cell? _ _ c0)).trans c0
    have hc := x1.cell (UF.cell f a h k)
    have hf := x1.free f.ix
    have HS := Lib.hid (x1.setU f (cutN b 2))
    have HB := Lib.hid ((But.of_below hb1 (Nat.le_refl _) [q]).trans (But.one w1 q f.ix (.int .u16 ((cutN b 2).toNat : Int))))
    unfold u16v at *
    generalize f.ix = i at *
    generalize hV : cutN b 2 = V at *
    have i5 : (V.toNat : Int) % 65536 = (V.toNat : Int) := by omega
    go_wp2_with (go_at_fn gof; refine (hO _ _).mono ?_; rintro e w' ⟨rfl, rfl⟩)
    go_ret2
    exact ReadPost.yes HR.out HS.out HB.out k1 k2 k3 k4
end Go.Proofs.Ytaembpncoicdpaa
