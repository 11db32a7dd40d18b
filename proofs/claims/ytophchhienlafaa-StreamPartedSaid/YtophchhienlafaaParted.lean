/-
  The law StreamParted, walked: it answers true, and nothing that was there is touched.
-/
import Derived.Test.YtophchhienlafaaTells
import Derived.Lib.MinMax
namespace Go.Proofs.Ytophchhienlafaa
open Go.RowKit

abbrev i64v (z : Int) : Value := .int .i64 z

/-- What stands at the head of the loop: at, bad, i, and the parts' row. -/
def PartedInv (w : World) (N gs gt : Nat) (b : List UInt8) (lc : Nat) (all : Option Addr × Nat × Nat) (o a bd i : Value) (wr : World) : Prop :=
  ∃ (j at_ : Nat) (Ao : Option Addr) (no co : Nat) (vs : List Value) (Ss St : List Nat), i = .int .i64 j ∧ a = .int .i64 at_ ∧ bd = .bool (Stm.cut (b.take at_)).2.2 ∧ o = .slice Ao no co ∧ j ≤ lc + 1 ∧ at_ ≤ b.length ∧ (j = lc + 1 → (Stm.cut (b.take at_)).2.2 = true ∨ at_ = b.length) ∧
    (Stm.cut (b.take at_)).1.length = no ∧ wr.ownsRow N 55 3 (.slice Ao no co) no vs ∧ FrsIn (fun k => k ∉ St ∧ offRow Ao k) wr vs (Stm.cut (b.take at_)).1 ∧ (∀ g o s, Ao = some ⟨g, o, s⟩ → g ∉ St) ∧
    StAt wr gs (Stm.cut b).2.1 (Stm.cut b).2.2 Ss ∧ (∀ k ∈ Ss, k < N ∧ k ∉ St) ∧ StAt wr gt (Stm.cut (b.take at_)).2.1 (Stm.cut (b.take at_)).2.2 St ∧ (∀ k ∈ St, w.heap.size ≤ k) ∧
    FrsOf (fun k => k < N ∧ k ∉ St) wr all.1 all.2.1 all.2.2 (Stm.cut b).1 ∧ w.heap.size ≤ N ∧ N ≤ wr.heap.size ∧ Below w.heap.size w wr

set_option maxRecDepth 100000 in
set_option maxHeartbeats 40000000 in
theorem parted_small (A B : Option Addr) (n c m d : Nat) (b : List UInt8) (cuts : List Int) (hn : b.length = n) (hm : cuts.length = m) (hnc : n ≤ c) (hn2 : n ≤ 2000) (hm2 : m ≤ 100) (w : World) (ha : Lies u8v w A b) (hb : Lies i64v w B cuts) :
    Calls Try.prog 4 #[.slice A n c, .slice B m d] w fun e w' => e = .returned (.bool true) ∧ Below w.heap.size w w' := by
  subst hn
  subst hm
  have g1 : (b.length : Int) ≤ 2000 := by omega
  have g2 : (cuts.length : Int) ≤ 100 := by omega
  go_enter Try.func4, Try.ntmps4
  go_wp2_with fail
  refine (awake_any _).mono ?_
  rintro e w1 ⟨rfl, hb1⟩
  have hz1 := hb1.size
  go_wp2_with fail
  refine (new5_any w1).mono ?_
  rintro e w2 ⟨gs, S0, rfl, hs2, hS0, hb2⟩
  have hbw2 := hb1.trans (hb2.mono hz1)
  have hz2 := hbw2.size
  have hS0l := hs2.own
  go_wp2_with fail
  refine (new5_any w2).mono ?_
  rintro e w3 ⟨gt, T0, rfl, ht3, hT0, hb3⟩
  have hs3 := hs2.below hb3
  have hbw3 := hbw2.trans (hb3.mono hz2)
  have hz3 := hbw3.size
  have hT0l := ht3.own
  have hS0w : ∀ k ∈ S0, w.heap.size ≤ k := fun k hk => Nat.le_trans hz1 (hS0 k hk)
  have hT0w : ∀ k ∈ T0, w.heap.size ≤ k := fun k hk => Nat.le_trans hz2 (hT0 k hk)
  have hdis : ∀ k ∈ S0, k ∉ T0 := fun k hk hm => by have := hS0l k hk; have := hT0 k hm; omega
  have ha3 := ha.below hbw3 (Nat.le_refl _)
  have hfarA : ∀ S : List Nat, (∀ k ∈ S, w.heap.size ≤ k) → ∀ b' o s, A = some ⟨b', o, s⟩ → 0 < b.length → b' ∉ S := by
    intro S hS b' o s e h0 hm
    obtain ⟨_, _, e', hc⟩ := ha 0 h0
    rw [e] at e'
    cases e'
    have h5 : b' < w.heap.size := World.block_lt_of_cell? w _ hc
    have := hS _ hm
    omega
  have HFA := Lib.hid hfarA
  clear hs2 hS0 hb2 hbw2 hb3 hT0 hS0l
  go_wp2_with fail
  refine (take5_any gs S0 A b.length c [] b rfl hnc (by simp; omega) w3 hs3 ha3 (hfarA S0 hS0w)).mono ?_
  rintro e w4 ⟨Al, nl, kl, S4, rfl, hfl, hs4, hS4, hb4⟩
  rw [List.nil_append] at hfl hs4 ⊢
  have hbw4 := hbw3.trans (hb4.below hS0w hz3)
  have ht4 : StAt w4 gt [] false T0 := ht3.but hb4 (fun k hk hm => hdis k hm hk)
  have hS4w : ∀ k ∈ S4, w.heap.size ≤ k := fun k hk => by rcases hS4 k hk with h | h; exact hS0w k h; omega
  have hS4l := hs4.own
  have hz4 := hbw4.size
  have hS4T : ∀ k ∈ S4, k < w4.heap.size ∧ k ∉ T0 := fun k hk => ⟨hS4l k hk, fun hm => by rcases hS4 k hk with h | h; exact hdis k h hm; have := hT0l k hm; omega⟩
  have hfl4 : FrsOf (fun k => k < w4.heap.size ∧ k ∉ T0) w4 Al nl kl (Stm.cut b).1 := hfl.move fun k hk hl => ⟨rfl, hl, fun hm => by have := hT0l k hm; omega⟩
  clear hs3 ht3 hbw3 hz3 hb4 hfl ha3 hfarA hT0l hdis hS4 hS0w hS4l
  obtain ⟨ev, hev⟩ : ∃ ev : Int, (if (Stm.cut b).2.2 = true then (2 : Int) else 0) = ev := ⟨_, rfl⟩
  have hev2 : (ev != 0) = (Stm.cut b).2.2 := by rw [← hev]; cases (Stm.cut b).2.2 <;> rfl
  rw [hev]
  go_wp2_with fail
  go_loopw [10, 11, 12, 13] (fun o a bd i wr => PartedInv w w4.heap.size gs gt b cuts.length (Al, nl, kl) o a bd i wr) (fun _ _ _ i _ => cuts.length + 1 - (intOf i).toNat)
  case atStart =>
    have hc0 : Stm.cut (b.take 0) = ([], [], false) := by rw [List.take_zero]; exact Stm.cut_nil
    exact ⟨0, 0, none, 0, 0, [], S4, T0, rfl, rfl, by rw [hc0], rfl, by omega, Nat.zero_le _, by omega, by rw [hc0]; rfl, World.ownsRow_nil _ _ _ _, by rw [hc0]; rfl, (by rintro _ _ _ h; cases h), hs4, hS4T, by rw [hc0]; exact ht4, hT0w, hfl4, hz4, Nat.le_refl _, hbw4⟩
  case round =>
    obtain ⟨j, at_, Ao, no, co, vs, Ss, St, rfl, rfl, rfl, rfl, hj, hat, hend, hno, hown, hfr, hAo, hss, hSs, hst, hStw, hfl5, hzN, hNr, hbe⟩ := hrel
    by_cases hgo : (Stm.cut (b.take at_)).2.2 = false ∧ j ≤ cuts.length
    · obtain ⟨hbd, hjl⟩ := hgo
      have j1 : (j : Int) ≤ (cuts.length : Int) := by omega
      rw [hbd]
      by_cases hjlt : j < cuts.length
      · obtain ⟨bB, oB, rfl, hcB0⟩ := hb j hjlt
        have hltB : bB < wr.heap.size := Nat.lt_of_lt_of_le (World.block_lt_of_cell? w _ hcB0) hbe.size
        have hcB := (hbe.cell (p := ⟨bB, oB + j, none⟩) (World.block_lt_of_cell? w _ hcB0)).trans hcB0
        have j2 : (j : Int) < (cuts.length : Int) := by omega
        obtain ⟨x, hx⟩ : ∃ x, cuts[j] = x := ⟨_, rfl⟩
        have hcB1 : wr.cell? ⟨bB, oB + j, none⟩ = some (.int .i64 x) := by rw [← hx]; exact hcB
        clear hcB hcB0 hx
        by_cases hx1 : x ≤ (at_ : Int)
        · have hTa : at_ ≤ at_ := by omega
          have hTb : at_ ≤ b.length := by omega
          have hMx : max x (at_ : Int) = (at_ : Int) := by omega
          have hMn : min (at_ : Int) (b.length : Int) = (at_ : Int) := by omega
          have hsp : b.take at_ ++ (b.drop at_).take (at_ - at_) = b.take at_ := by
            rw [← List.take_add, show at_ + (at_ - at_) = at_ by omega]
          have hcp := Stm.cut_parts (b.take at_) ((b.drop at_).take (at_ - at_))
          rw [hsp, hbd, if_neg (by decide)] at hcp
          have hsl : ((b.drop at_).take (at_ - at_)).length = 0 := by rw [List.length_take, List.length_drop]; omega
          have hheld := Stm.cut_held (b.take at_)
          have haw := ha.below hbe (Nat.le_refl _)
          have hfar := HFA.out St hStw
          have hStl := hst.own
          have hssl := hss.own
          have hzw := hbe.size
          by_cases hcap : c = at_
          · obtain rfl := hcap.symm
            have hsl := hsl.trans (show 0 = 0 by omega)
            have hcnt := Stm.cut_count ((Stm.cut (b.take at_)).2.1 ++ (b.drop at_).take (at_ - at_))
            rw [List.length_append, hsl] at hcnt
            have hheld5 := Stm.cut_held ((Stm.cut (b.take at_)).2.1 ++ (b.drop at_).take (at_ - at_))
            rw [hbd] at hst
            have HCP := Lib.hid hcp
            have HSL := Lib.hid hsl
            clear hcp hsl hsp
            have hAlt : ∀ g o s, Ao = some ⟨g, o, s⟩ → g < wr.heap.size := fun g o s e => by subst e; exact (hown.lt g rfl).2
            go_wp2_with fail
            refine (take5_any gt St _ 0 _ _ ((b.drop at_).take (at_ - at_)) HSL.out (by omega) (by omega) wr hst (by rw [List.eq_nil_of_length_eq_zero (show ((b.drop at_).take (at_ - at_)).length = 0 by have := HSL.out; omega)]; exact Lies.nil _ _) (fun b o s e h0 => by omega)).mono ?_
            rintro e w5 ⟨Ax, nx, kx, T5, rfl, hfx, ht5, hT5, hb5⟩
            generalize Stm.cut ((Stm.cut (b.take at_)).2.1 ++ (b.drop at_).take (at_ - at_)) = q5 at *
            obtain ⟨ev5, hev5⟩ : ∃ v : Int, (if q5.2.2 = true then (2 : Int) else 0) = v := ⟨_, rfl⟩
            have hev6 : (ev5 != 0) = q5.2.2 := by rw [← hev5]; cases q5.2.2 <;> rfl
            rw [hev5]
            have hnT : ∀ k, k < wr.heap.size → k ∉ St → k ∉ T5 := fun k hk hn hm => by rcases hT5 k hm with h1 | h1; exact hn h1; omega
            have hown5 := own_but hown hb5 (fun g e => by
              rcases Ao with _ | ⟨ga, oa, sa⟩
              · cases e
              · have e' : some ga = some g := e
                cases e'
                exact hAo _ _ _ rfl)
            have hfr5 : FrsIn (fun k => k ∉ T5 ∧ offRow Ao k) w5 vs (Stm.cut (b.take at_)).1 := hfr.move fun k hk hl => ⟨hb5.block k hl hk.1, hnT k hl hk.1, hk.2⟩
            have hAo5 : ∀ g o s, Ao = some ⟨g, o, s⟩ → g ∉ T5 := fun g o s e => hnT g (hAlt g o s e) (hAo g o s e)
            have hss5 := hss.but hb5 (fun k hk hm => (hSs k hk).2 hm)
            have hSs5 : ∀ k ∈ Ss, k < w4.heap.size ∧ k ∉ T5 := fun k hk => ⟨(hSs k hk).1, hnT k (hssl k hk) (hSs k hk).2⟩
            have hfl6 : FrsOf (fun k => k < w4.heap.size ∧ k ∉ T5) w5 Al nl kl (Stm.cut b).1 := hfl5.move fun k hk hl => ⟨hb5.block k hl hk.2, hk.1, hnT k hl hk.2⟩
            have hT5w : ∀ k ∈ T5, w.heap.size ≤ k := fun k hk => by rcases hT5 k hk with h1 | h1; exact hStw k h1; omega
            have hbe5 := hbe.trans (hb5.below hStw hzw)
            have hz5 := hbe5.size
            have hT5l := ht5.own
            have hwr5 := hb5.size
            clear hown hfr hAo hss hSs hst hStw hfl5 hbe hb5 hT5 hnT hssl hStl
            go_wp2_with fail
            refine (own5_any Ax nx kx q5.1 hfx.1 (by have := hfx.1; omega) w5 hfx.at_).mono ?_
            rintro e w6 ⟨A6, n6, c6, vs6, rfl, hn6, hown6, hfr6, hb6⟩
            obtain ⟨_, _, hlv6, hc6⟩ := ownN_at hown6
            have hown56 := own_but hown5 (But.of_below hb6 (Nat.le_refl _) []) (by simp)
            have hfr56 := hfr5.below hb6 (Nat.le_refl _)
            have hfr6' : FrsIn (fun k => k ∉ T5 ∧ offRow Ao k) w6 vs6 q5.1 := hfr6.move fun k hk _ => ⟨rfl, hk.1.2, fun g o s e => by have := hAlt g o s e; omega⟩
            have hss6 := hss5.below hb6
            have ht6 := ht5.below hb6
            have hfl7 := hfl6.below hb6
            have hbe6 := hbe5.trans (hb6.mono hz5)
            have hz6 := hbe6.size
            have hN6 : w4.heap.size ≤ w6.heap.size := Nat.le_trans hNr (Nat.le_trans hwr5 hb6.size)
            have hno2 : no ≤ 2000 := by have := Stm.cut_count (b.take at_); rw [List.length_take] at this; omega
            go_wp2_with (at_builtin; go_must (refine wpList_append_cells kitF _ rfl (.tmp 76) (.tmp 78) rfl w4.heap.size _ no vs rfl hown56 A6 n6 c6 vs6 rfl hlv6 hc6 (frs_one hfr6) (by omega) (by unfold maxLen; omega) hN6 ?_; intro A7 c7 w7 hown7 hgr7 hb7 hat7))
            have hL : ∀ k, k < w6.heap.size → offRow Ao k → w7.heap[k]? = w6.heap[k]? := fun k hk ho => hgr7.block k hk (fun e => by
              rcases Ao with _ | ⟨ga, oa, sa⟩
              · cases e
              · have e' : some k = some ga := e
                exact ho _ _ _ rfl (Option.some.inj e'))
            have hA7 : ∀ g o s, A7 = some ⟨g, o, s⟩ → (∃ o' s', Ao = some ⟨g, o', s'⟩) ∨ g = w6.heap.size := fun g o s e => by
              rcases hat7 g o s e with h1 | h1
              · rcases Ao with _ | ⟨ga, oa, sa⟩
                · cases h1
                · have h2 : some ga = some g := h1
                  cases h2
                  exact .inl ⟨_, _, rfl⟩
              · exact .inr h1
            have hfr7 : FrsIn (fun k => k ∉ T5 ∧ offRow A7 k) w7 (vs ++ vs6) ((Stm.cut (b.take at_)).1 ++ q5.1) := (hfr56.append hfr6').move fun k hk hl => ⟨hL k hl hk.2, hk.1, fun g o s e => by
              rcases hA7 g o s e with ⟨o', s', e'⟩ | e'
              · exact hk.2 _ _ _ e'
              · omega⟩
            have hAo7 : ∀ g o s, A7 = some ⟨g, o, s⟩ → g ∉ T5 := fun g o s e hm => by
              rcases hA7 g o s e with ⟨o', s', e'⟩ | e'
              · exact hAo5 _ _ _ e' hm
              · have := hT5l g hm
                have := hb6.size
                omega
            have hss7 := hss6.over (fun k hk => (hSs5 k hk).1) hb7
            have ht7 : StAt w7 gt q5.2.1 q5.2.2 T5 := ht6.but (T := (Value.slice Ao no co).ownBlock.toList) ((But.refl _ _).grown hgr7 (fun k hk => .inl (by have hk' : (Value.slice Ao no co).ownBlock = some k := hk; rw [hk']; simp))) (fun k hk hm => by
              rcases Ao with _ | ⟨ga, oa, sa⟩
              · simp [Value.ownBlock] at hm
              · simp [Value.ownBlock] at hm
                exact hAo5 _ _ _ rfl (hm ▸ hk))
            have hfl8 : FrsOf (fun k => k < w4.heap.size ∧ k ∉ T5) w7 Al nl kl (Stm.cut b).1 := hfl7.move fun k hk _ => ⟨hb7.block k hk.1, hk⟩
            have hbe7 := hbe6.trans (hb7.mono (by omega))
            have hN7 : w4.heap.size ≤ w7.heap.size := Nat.le_trans hN6 hb7.size
            have i9 : (q5.2.1.length : Int) < 260 := by omega
            clear hown5 hfr5 hss5 hfl6 hbe5 ht5 hown6 hfr6 hb6 hc6 hown56 hfr56 hfr6' hss6 ht6 hfl7 hbe6 hgr7 hb7 hat7 hL hA7 hAlt hfx
            go_wp2_with fail
            refine (held5_any gt T5 _ _ w7 ht7).mono ?_
            rintro e w8 ⟨rfl, rfl⟩
            go_wp2_with fail
            go_roundw
            case rel =>
              exact ⟨j + 1, at_, A7, no + n6, c7, vs ++ vs6, Ss, T5, by go_num, rfl, by rw [HCP.out]; try rw [hev6], rfl, by omega, hTb, (by omega), by rw [HCP.out]; simp only [List.length_append, hno, hn6], hown7, by rw [HCP.out]; exact hfr7, hAo7, hss7, hSs5, by rw [HCP.out]; exact ht7, hT5w, hfl8, hzN, hN7, hbe7⟩
            case measure => (simp [intOf]; try omega)
          · have hcnt := Stm.cut_count ((Stm.cut (b.take at_)).2.1 ++ (b.drop at_).take (at_ - at_))
            rw [List.length_append, hsl] at hcnt
            have hheld5 := Stm.cut_held ((Stm.cut (b.take at_)).2.1 ++ (b.drop at_).take (at_ - at_))
            rw [hbd] at hst
            have HCP := Lib.hid hcp
            have HSL := Lib.hid hsl
            clear hcp hsl hsp
            have hAlt : ∀ g o s, Ao = some ⟨g, o, s⟩ → g < wr.heap.size := fun g o s e => by subst e; exact (hown.lt g rfl).2
            go_wp2_with fail
            refine (take5_any gt St _ 0 _ _ ((b.drop at_).take (at_ - at_)) HSL.out (by omega) (by omega) wr hst ((lies_map_add haw at_).take (at_ - at_)) (fun b o s e h0 hm => by obtain ⟨o', s', e'⟩ := map_add_block e; exact hfar b o' s' e' (by omega) hm)).mono ?_
            rintro e w5 ⟨Ax, nx, kx, T5, rfl, hfx, ht5, hT5, hb5⟩
            generalize Stm.cut ((Stm.cut (b.take at_)).2.1 ++ (b.drop at_).take (at_ - at_)) = q5 at *
            obtain ⟨ev5, hev5⟩ : ∃ v : Int, (if q5.2.2 = true then (2 : Int) else 0) = v := ⟨_, rfl⟩
            have hev6 : (ev5 != 0) = q5.2.2 := by rw [← hev5]; cases q5.2.2 <;> rfl
            rw [hev5]
            have hnT : ∀ k, k < wr.heap.size → k ∉ St → k ∉ T5 := fun k hk hn hm => by rcases hT5 k hm with h1 | h1; exact hn h1; omega
            have hown5 := own_but hown hb5 (fun g e => by
              rcases Ao with _ | ⟨ga, oa, sa⟩
              · cases e
              · have e' : some ga = some g := e
                cases e'
                exact hAo _ _ _ rfl)
            have hfr5 : FrsIn (fun k => k ∉ T5 ∧ offRow Ao k) w5 vs (Stm.cut (b.take at_)).1 := hfr.move fun k hk hl => ⟨hb5.block k hl hk.1, hnT k hl hk.1, hk.2⟩
            have hAo5 : ∀ g o s, Ao = some ⟨g, o, s⟩ → g ∉ T5 := fun g o s e => hnT g (hAlt g o s e) (hAo g o s e)
            have hss5 := hss.but hb5 (fun k hk hm => (hSs k hk).2 hm)
            have hSs5 : ∀ k ∈ Ss, k < w4.heap.size ∧ k ∉ T5 := fun k hk => ⟨(hSs k hk).1, hnT k (hssl k hk) (hSs k hk).2⟩
            have hfl6 : FrsOf (fun k => k < w4.heap.size ∧ k ∉ T5) w5 Al nl kl (Stm.cut b).1 := hfl5.move fun k hk hl => ⟨hb5.block k hl hk.2, hk.1, hnT k hl hk.2⟩
            have hT5w : ∀ k ∈ T5, w.heap.size ≤ k := fun k hk => by rcases hT5 k hk with h1 | h1; exact hStw k h1; omega
            have hbe5 := hbe.trans (hb5.below hStw hzw)
            have hz5 := hbe5.size
            have hT5l := ht5.own
            have hwr5 := hb5.size
            clear hown hfr hAo hss hSs hst hStw hfl5 hbe hb5 hT5 hnT hssl hStl
            go_wp2_with fail
            refine (own5_any Ax nx kx q5.1 hfx.1 (by have := hfx.1; omega) w5 hfx.at_).mono ?_
            rintro e w6 ⟨A6, n6, c6, vs6, rfl, hn6, hown6, hfr6, hb6⟩
            obtain ⟨_, _, hlv6, hc6⟩ := ownN_at hown6
            have hown56 := own_but hown5 (But.of_below hb6 (Nat.le_refl _) []) (by simp)
            have hfr56 := hfr5.below hb6 (Nat.le_refl _)
            have hfr6' : FrsIn (fun k => k ∉ T5 ∧ offRow Ao k) w6 vs6 q5.1 := hfr6.move fun k hk _ => ⟨rfl, hk.1.2, fun g o s e => by have := hAlt g o s e; omega⟩
            have hss6 := hss5.below hb6
            have ht6 := ht5.below hb6
            have hfl7 := hfl6.below hb6
            have hbe6 := hbe5.trans (hb6.mono hz5)
            have hz6 := hbe6.size
            have hN6 : w4.heap.size ≤ w6.heap.size := Nat.le_trans hNr (Nat.le_trans hwr5 hb6.size)
            have hno2 : no ≤ 2000 := by have := Stm.cut_count (b.take at_); rw [List.length_take] at this; omega
            go_wp2_with (at_builtin; go_must (refine wpList_append_cells kitF _ rfl (.tmp 76) (.tmp 78) rfl w4.heap.size _ no vs rfl hown56 A6 n6 c6 vs6 rfl hlv6 hc6 (frs_one hfr6) (by omega) (by unfold maxLen; omega) hN6 ?_; intro A7 c7 w7 hown7 hgr7 hb7 hat7))
            have hL : ∀ k, k < w6.heap.size → offRow Ao k → w7.heap[k]? = w6.heap[k]? := fun k hk ho => hgr7.block k hk (fun e => by
              rcases Ao with _ | ⟨ga, oa, sa⟩
              · cases e
              · have e' : some k = some ga := e
                exact ho _ _ _ rfl (Option.some.inj e'))
            have hA7 : ∀ g o s, A7 = some ⟨g, o, s⟩ → (∃ o' s', Ao = some ⟨g, o', s'⟩) ∨ g = w6.heap.size := fun g o s e => by
              rcases hat7 g o s e with h1 | h1
              · rcases Ao with _ | ⟨ga, oa, sa⟩
                · cases h1
                · have h2 : some ga = some g := h1
                  cases h2
                  exact .inl ⟨_, _, rfl⟩
              · exact .inr h1
            have hfr7 : FrsIn (fun k => k ∉ T5 ∧ offRow A7 k) w7 (vs ++ vs6) ((Stm.cut (b.take at_)).1 ++ q5.1) := (hfr56.append hfr6').move fun k hk hl => ⟨hL k hl hk.2, hk.1, fun g o s e => by
              rcases hA7 g o s e with ⟨o', s', e'⟩ | e'
              · exact hk.2 _ _ _ e'
              · omega⟩
            have hAo7 : ∀ g o s, A7 = some ⟨g, o, s⟩ → g ∉ T5 := fun g o s e hm => by
              rcases hA7 g o s e with ⟨o', s', e'⟩ | e'
              · exact hAo5 _ _ _ e' hm
              · have := hT5l g hm
                have := hb6.size
                omega
            have hss7 := hss6.over (fun k hk => (hSs5 k hk).1) hb7
            have ht7 : StAt w7 gt q5.2.1 q5.2.2 T5 := ht6.but (T := (Value.slice Ao no co).ownBlock.toList) ((But.refl _ _).grown hgr7 (fun k hk => .inl (by have hk' : (Value.slice Ao no co).ownBlock = some k := hk; rw [hk']; simp))) (fun k hk hm => by
              rcases Ao with _ | ⟨ga, oa, sa⟩
              · simp [Value.ownBlock] at hm
              · simp [Value.ownBlock] at hm
                exact hAo5 _ _ _ rfl (hm ▸ hk))
            have hfl8 : FrsOf (fun k => k < w4.heap.size ∧ k ∉ T5) w7 Al nl kl (Stm.cut b).1 := hfl7.move fun k hk _ => ⟨hb7.block k hk.1, hk⟩
            have hbe7 := hbe6.trans (hb7.mono (by omega))
            have hN7 : w4.heap.size ≤ w7.heap.size := Nat.le_trans hN6 hb7.size
            have i9 : (q5.2.1.length : Int) < 260 := by omega
            clear hown5 hfr5 hss5 hfl6 hbe5 ht5 hown6 hfr6 hb6 hc6 hown56 hfr56 hfr6' hss6 ht6 hfl7 hbe6 hgr7 hb7 hat7 hL hA7 hAlt hfx
            go_wp2_with fail
            refine (held5_any gt T5 _ _ w7 ht7).mono ?_
            rintro e w8 ⟨rfl, rfl⟩
            go_wp2_with fail
            go_roundw
            case rel =>
              exact ⟨j + 1, at_, A7, no + n6, c7, vs ++ vs6, Ss, T5, by go_num, rfl, by rw [HCP.out]; try rw [hev6], rfl, by omega, hTb, (by omega), by rw [HCP.out]; simp only [List.length_append, hno, hn6], hown7, by rw [HCP.out]; exact hfr7, hAo7, hss7, hSs5, by rw [HCP.out]; exact ht7, hT5w, hfl8, hzN, hN7, hbe7⟩
            case measure => (simp [intOf]; try omega)
        · obtain ⟨k, rfl⟩ := Int.eq_ofNat_of_zero_le (show 0 ≤ x by omega)
          by_cases hx2 : k ≤ b.length
          · have hTa : at_ ≤ k := by omega
            have hTb : k ≤ b.length := by omega
            have hMx : max (k : Int) (at_ : Int) = (k : Int) := by omega
            have hMn : min (k : Int) (b.length : Int) = (k : Int) := by omega
            have hsp : b.take at_ ++ (b.drop at_).take (k - at_) = b.take k := by
              rw [← List.take_add, show at_ + (k - at_) = k by omega]
            have hcp := Stm.cut_parts (b.take at_) ((b.drop at_).take (k - at_))
            rw [hsp, hbd, if_neg (by decide)] at hcp
            have hsl : ((b.drop at_).take (k - at_)).length = (k - at_) := by rw [List.length_take, List.length_drop]; omega
            have hheld := Stm.cut_held (b.take at_)
            have haw := ha.below hbe (Nat.le_refl _)
            have hfar := HFA.out St hStw
            have hStl := hst.own
            have hssl := hss.own
            have hzw := hbe.size
            by_cases hcap : c = at_
            · exact absurd hcap (by omega)
            · have hcnt := Stm.cut_count ((Stm.cut (b.take at_)).2.1 ++ (b.drop at_).take (k - at_))
              rw [List.length_append, hsl] at hcnt
              have hheld5 := Stm.cut_held ((Stm.cut (b.take at_)).2.1 ++ (b.drop at_).take (k - at_))
              rw [hbd] at hst
              have HCP := Lib.hid hcp
              have HSL := Lib.hid hsl
              clear hcp hsl hsp
              have hAlt : ∀ g o s, Ao = some ⟨g, o, s⟩ → g < wr.heap.size := fun g o s e => by subst e; exact (hown.lt g rfl).2
              go_wp2_with fail
              refine (take5_any gt St _ (k - at_) _ _ ((b.drop at_).take (k - at_)) HSL.out (by omega) (by omega) wr hst ((lies_map_add haw at_).take (k - at_)) (fun b o s e h0 hm => by obtain ⟨o', s', e'⟩ := map_add_block e; exact hfar b o' s' e' (by omega) hm)).mono ?_
              rintro e w5 ⟨Ax, nx, kx, T5, rfl, hfx, ht5, hT5, hb5⟩
              generalize Stm.cut ((Stm.cut (b.take at_)).2.1 ++ (b.drop at_).take (k - at_)) = q5 at *
              obtain ⟨ev5, hev5⟩ : ∃ v : Int, (if q5.2.2 = true then (2 : Int) else 0) = v := ⟨_, rfl⟩
              have hev6 : (ev5 != 0) = q5.2.2 := by rw [← hev5]; cases q5.2.2 <;> rfl
              rw [hev5]
              have hnT : ∀ k, k < wr.heap.size → k ∉ St → k ∉ T5 := fun k hk hn hm => by rcases hT5 k hm with h1 | h1; exact hn h1; omega
              have hown5 := own_but hown hb5 (fun g e => by
                rcases Ao with _ | ⟨ga, oa, sa⟩
                · cases e
                · have e' : some ga = some g := e
                  cases e'
                  exact hAo _ _ _ rfl)
              have hfr5 : FrsIn (fun k => k ∉ T5 ∧ offRow Ao k) w5 vs (Stm.cut (b.take at_)).1 := hfr.move fun k hk hl => ⟨hb5.block k hl hk.1, hnT k hl hk.1, hk.2⟩
              have hAo5 : ∀ g o s, Ao = some ⟨g, o, s⟩ → g ∉ T5 := fun g o s e => hnT g (hAlt g o s e) (hAo g o s e)
              have hss5 := hss.but hb5 (fun k hk hm => (hSs k hk).2 hm)
              have hSs5 : ∀ k ∈ Ss, k < w4.heap.size ∧ k ∉ T5 := fun k hk => ⟨(hSs k hk).1, hnT k (hssl k hk) (hSs k hk).2⟩
              have hfl6 : FrsOf (fun k => k < w4.heap.size ∧ k ∉ T5) w5 Al nl kl (Stm.cut b).1 := hfl5.move fun k hk hl => ⟨hb5.block k hl hk.2, hk.1, hnT k hl hk.2⟩
              have hT5w : ∀ k ∈ T5, w.heap.size ≤ k := fun k hk => by rcases hT5 k hk with h1 | h1; exact hStw k h1; omega
              have hbe5 := hbe.trans (hb5.below hStw hzw)
              have hz5 := hbe5.size
              have hT5l := ht5.own
              have hwr5 := hb5.size
              clear hown hfr hAo hss hSs hst hStw hfl5 hbe hb5 hT5 hnT hssl hStl
              go_wp2_with fail
              refine (own5_any Ax nx kx q5.1 hfx.1 (by have := hfx.1; omega) w5 hfx.at_).mono ?_
              rintro e w6 ⟨A6, n6, c6, vs6, rfl, hn6, hown6, hfr6, hb6⟩
              obtain ⟨_, _, hlv6, hc6⟩ := ownN_at hown6
              have hown56 := own_but hown5 (But.of_below hb6 (Nat.le_refl _) []) (by simp)
              have hfr56 := hfr5.below hb6 (Nat.le_refl _)
              have hfr6' : FrsIn (fun k => k ∉ T5 ∧ offRow Ao k) w6 vs6 q5.1 := hfr6.move fun k hk _ => ⟨rfl, hk.1.2, fun g o s e => by have := hAlt g o s e; omega⟩
              have hss6 := hss5.below hb6
              have ht6 := ht5.below hb6
              have hfl7 := hfl6.below hb6
              have hbe6 := hbe5.trans (hb6.mono hz5)
              have hz6 := hbe6.size
              have hN6 : w4.heap.size ≤ w6.heap.size := Nat.le_trans hNr (Nat.le_trans hwr5 hb6.size)
              have hno2 : no ≤ 2000 := by have := Stm.cut_count (b.take at_); rw [List.length_take] at this; omega
              go_wp2_with (at_builtin; go_must (refine wpList_append_cells kitF _ rfl (.tmp 76) (.tmp 78) rfl w4.heap.size _ no vs rfl hown56 A6 n6 c6 vs6 rfl hlv6 hc6 (frs_one hfr6) (by omega) (by unfold maxLen; omega) hN6 ?_; intro A7 c7 w7 hown7 hgr7 hb7 hat7))
              have hL : ∀ k, k < w6.heap.size → offRow Ao k → w7.heap[k]? = w6.heap[k]? := fun k hk ho => hgr7.block k hk (fun e => by
                rcases Ao with _ | ⟨ga, oa, sa⟩
                · cases e
                · have e' : some k = some ga := e
                  exact ho _ _ _ rfl (Option.some.inj e'))
              have hA7 : ∀ g o s, A7 = some ⟨g, o, s⟩ → (∃ o' s', Ao = some ⟨g, o', s'⟩) ∨ g = w6.heap.size := fun g o s e => by
                rcases hat7 g o s e with h1 | h1
                · rcases Ao with _ | ⟨ga, oa, sa⟩
                  · cases h1
                  · have h2 : some ga = some g := h1
                    cases h2
                    exact .inl ⟨_, _, rfl⟩
                · exact .inr h1
              have hfr7 : FrsIn (fun k => k ∉ T5 ∧ offRow A7 k) w7 (vs ++ vs6) ((Stm.cut (b.take at_)).1 ++ q5.1) := (hfr56.append hfr6').move fun k hk hl => ⟨hL k hl hk.2, hk.1, fun g o s e => by
                rcases hA7 g o s e with ⟨o', s', e'⟩ | e'
                · exact hk.2 _ _ _ e'
                · omega⟩
              have hAo7 : ∀ g o s, A7 = some ⟨g, o, s⟩ → g ∉ T5 := fun g o s e hm => by
                rcases hA7 g o s e with ⟨o', s', e'⟩ | e'
                · exact hAo5 _ _ _ e' hm
                · have := hT5l g hm
                  have := hb6.size
                  omega
              have hss7 := hss6.over (fun k hk => (hSs5 k hk).1) hb7
              have ht7 : StAt w7 gt q5.2.1 q5.2.2 T5 := ht6.but (T := (Value.slice Ao no co).ownBlock.toList) ((But.refl _ _).grown hgr7 (fun k hk => .inl (by have hk' : (Value.slice Ao no co).ownBlock = some k := hk; rw [hk']; simp))) (fun k hk hm => by
                rcases Ao with _ | ⟨ga, oa, sa⟩
                · simp [Value.ownBlock] at hm
                · simp [Value.ownBlock] at hm
                  exact hAo5 _ _ _ rfl (hm ▸ hk))
              have hfl8 : FrsOf (fun k => k < w4.heap.size ∧ k ∉ T5) w7 Al nl kl (Stm.cut b).1 := hfl7.move fun k hk _ => ⟨hb7.block k hk.1, hk⟩
              have hbe7 := hbe6.trans (hb7.mono (by omega))
              have hN7 : w4.heap.size ≤ w7.heap.size := Nat.le_trans hN6 hb7.size
              have i9 : (q5.2.1.length : Int) < 260 := by omega
              clear hown5 hfr5 hss5 hfl6 hbe5 ht5 hown6 hfr6 hb6 hc6 hown56 hfr56 hfr6' hss6 ht6 hfl7 hbe6 hgr7 hb7 hat7 hL hA7 hAlt hfx
              go_wp2_with fail
              refine (held5_any gt T5 _ _ w7 ht7).mono ?_
              rintro e w8 ⟨rfl, rfl⟩
              go_wp2_with fail
              go_roundw
              case rel =>
                exact ⟨j + 1, k, A7, no + n6, c7, vs ++ vs6, Ss, T5, by go_num, rfl, by rw [HCP.out]; try rw [hev6], rfl, by omega, hTb, (by omega), by rw [HCP.out]; simp only [List.length_append, hno, hn6], hown7, by rw [HCP.out]; exact hfr7, hAo7, hss7, hSs5, by rw [HCP.out]; exact ht7, hT5w, hfl8, hzN, hN7, hbe7⟩
              case measure => (simp [intOf]; try omega)
          · have hTa : at_ ≤ b.length := by omega
            have hTb : b.length ≤ b.length := by omega
            have hMx : max (k : Int) (at_ : Int) = (k : Int) := by omega
            have hMn : min (k : Int) (b.length : Int) = (b.length : Int) := by omega
            have hsp : b.take at_ ++ (b.drop at_).take (b.length - at_) = b.take b.length := by
              rw [← List.take_add, show at_ + (b.length - at_) = b.length by omega]
            have hcp := Stm.cut_parts (b.take at_) ((b.drop at_).take (b.length - at_))
            rw [hsp, hbd, if_neg (by decide)] at hcp
            have hsl : ((b.drop at_).take (b.length - at_)).length = (b.length - at_) := by rw [List.length_take, List.length_drop]; omega
            have hheld := Stm.cut_held (b.take at_)
            have haw := ha.below hbe (Nat.le_refl _)
            have hfar := HFA.out St hStw
            have hStl := hst.own
            have hssl := hss.own
            have hzw := hbe.size
            by_cases hcap : c = at_
            · obtain rfl := hcap.symm
              have hsl := hsl.trans (show (b.length - at_) = 0 by omega)
              have hcnt := Stm.cut_count ((Stm.cut (b.take at_)).2.1 ++ (b.drop at_).take (b.length - at_))
              rw [List.length_append, hsl] at hcnt
              have hheld5 := Stm.cut_held ((Stm.cut (b.take at_)).2.1 ++ (b.drop at_).take (b.length - at_))
              rw [hbd] at hst
              have HCP := Lib.hid hcp
              have HSL := Lib.hid hsl
              clear hcp hsl hsp
              have hAlt : ∀ g o s, Ao = some ⟨g, o, s⟩ → g < wr.heap.size := fun g o s e => by subst e; exact (hown.lt g rfl).2
              go_wp2_with fail
              refine (take5_any gt St _ 0 _ _ ((b.drop at_).take (b.length - at_)) HSL.out (by omega) (by omega) wr hst (by rw [List.eq_nil_of_length_eq_zero (show ((b.drop at_).take (b.length - at_)).length = 0 by have := HSL.out; omega)]; exact Lies.nil _ _) (fun b o s e h0 => by omega)).mono ?_
              rintro e w5 ⟨Ax, nx, kx, T5, rfl, hfx, ht5, hT5, hb5⟩
              generalize Stm.cut ((Stm.cut (b.take at_)).2.1 ++ (b.drop at_).take (b.length - at_)) = q5 at *
              obtain ⟨ev5, hev5⟩ : ∃ v : Int, (if q5.2.2 = true then (2 : Int) else 0) = v := ⟨_, rfl⟩
              have hev6 : (ev5 != 0) = q5.2.2 := by rw [← hev5]; cases q5.2.2 <;> rfl
              rw [hev5]
              have hnT : ∀ k, k < wr.heap.size → k ∉ St → k ∉ T5 := fun k hk hn hm => by rcases hT5 k hm with h1 | h1; exact hn h1; omega
              have hown5 := own_but hown hb5 (fun g e => by
                rcases Ao with _ | ⟨ga, oa, sa⟩
                · cases e
                · have e' : some ga = some g := e
                  cases e'
                  exact hAo _ _ _ rfl)
              have hfr5 : FrsIn (fun k => k ∉ T5 ∧ offRow Ao k) w5 vs (Stm.cut (b.take at_)).1 := hfr.move fun k hk hl => ⟨hb5.block k hl hk.1, hnT k hl hk.1, hk.2⟩
              have hAo5 : ∀ g o s, Ao = some ⟨g, o, s⟩ → g ∉ T5 := fun g o s e => hnT g (hAlt g o s e) (hAo g o s e)
              have hss5 := hss.but hb5 (fun k hk hm => (hSs k hk).2 hm)
              have hSs5 : ∀ k ∈ Ss, k < w4.heap.size ∧ k ∉ T5 := fun k hk => ⟨(hSs k hk).1, hnT k (hssl k hk) (hSs k hk).2⟩
              have hfl6 : FrsOf (fun k => k < w4.heap.size ∧ k ∉ T5) w5 Al nl kl (Stm.cut b).1 := hfl5.move fun k hk hl => ⟨hb5.block k hl hk.2, hk.1, hnT k hl hk.2⟩
              have hT5w : ∀ k ∈ T5, w.heap.size ≤ k := fun k hk => by rcases hT5 k hk with h1 | h1; exact hStw k h1; omega
              have hbe5 := hbe.trans (hb5.below hStw hzw)
              have hz5 := hbe5.size
              have hT5l := ht5.own
              have hwr5 := hb5.size
              clear hown hfr hAo hss hSs hst hStw hfl5 hbe hb5 hT5 hnT hssl hStl
              go_wp2_with fail
              refine (own5_any Ax nx kx q5.1 hfx.1 (by have := hfx.1; omega) w5 hfx.at_).mono ?_
              rintro e w6 ⟨A6, n6, c6, vs6, rfl, hn6, hown6, hfr6, hb6⟩
              obtain ⟨_, _, hlv6, hc6⟩ := ownN_at hown6
              have hown56 := own_but hown5 (But.of_below hb6 (Nat.le_refl _) []) (by simp)
              have hfr56 := hfr5.below hb6 (Nat.le_refl _)
              have hfr6' : FrsIn (fun k => k ∉ T5 ∧ offRow Ao k) w6 vs6 q5.1 := hfr6.move fun k hk _ => ⟨rfl, hk.1.2, fun g o s e => by have := hAlt g o s e; omega⟩
              have hss6 := hss5.below hb6
              have ht6 := ht5.below hb6
              have hfl7 := hfl6.below hb6
              have hbe6 := hbe5.trans (hb6.mono hz5)
              have hz6 := hbe6.size
              have hN6 : w4.heap.size ≤ w6.heap.size := Nat.le_trans hNr (Nat.le_trans hwr5 hb6.size)
              have hno2 : no ≤ 2000 := by have := Stm.cut_count (b.take at_); rw [List.length_take] at this; omega
              go_wp2_with (at_builtin; go_must (refine wpList_append_cells kitF _ rfl (.tmp 76) (.tmp 78) rfl w4.heap.size _ no vs rfl hown56 A6 n6 c6 vs6 rfl hlv6 hc6 (frs_one hfr6) (by omega) (by unfold maxLen; omega) hN6 ?_; intro A7 c7 w7 hown7 hgr7 hb7 hat7))
              have hL : ∀ k, k < w6.heap.size → offRow Ao k → w7.heap[k]? = w6.heap[k]? := fun k hk ho => hgr7.block k hk (fun e => by
                rcases Ao with _ | ⟨ga, oa, sa⟩
                · cases e
                · have e' : some k = some ga := e
                  exact ho _ _ _ rfl (Option.some.inj e'))
              have hA7 : ∀ g o s, A7 = some ⟨g, o, s⟩ → (∃ o' s', Ao = some ⟨g, o', s'⟩) ∨ g = w6.heap.size := fun g o s e => by
                rcases hat7 g o s e with h1 | h1
                · rcases Ao with _ | ⟨ga, oa, sa⟩
                  · cases h1
                  · have h2 : some ga = some g := h1
                    cases h2
                    exact .inl ⟨_, _, rfl⟩
                · exact .inr h1
              have hfr7 : FrsIn (fun k => k ∉ T5 ∧ offRow A7 k) w7 (vs ++ vs6) ((Stm.cut (b.take at_)).1 ++ q5.1) := (hfr56.append hfr6').move fun k hk hl => ⟨hL k hl hk.2, hk.1, fun g o s e => by
                rcases hA7 g o s e with ⟨o', s', e'⟩ | e'
                · exact hk.2 _ _ _ e'
                · omega⟩
              have hAo7 : ∀ g o s, A7 = some ⟨g, o, s⟩ → g ∉ T5 := fun g o s e hm => by
                rcases hA7 g o s e with ⟨o', s', e'⟩ | e'
                · exact hAo5 _ _ _ e' hm
                · have := hT5l g hm
                  have := hb6.size
                  omega
              have hss7 := hss6.over (fun k hk => (hSs5 k hk).1) hb7
              have ht7 : StAt w7 gt q5.2.1 q5.2.2 T5 := ht6.but (T := (Value.slice Ao no co).ownBlock.toList) ((But.refl _ _).grown hgr7 (fun k hk => .inl (by have hk' : (Value.slice Ao no co).ownBlock = some k := hk; rw [hk']; simp))) (fun k hk hm => by
                rcases Ao with _ | ⟨ga, oa, sa⟩
                · simp [Value.ownBlock] at hm
                · simp [Value.ownBlock] at hm
                  exact hAo5 _ _ _ rfl (hm ▸ hk))
              have hfl8 : FrsOf (fun k => k < w4.heap.size ∧ k ∉ T5) w7 Al nl kl (Stm.cut b).1 := hfl7.move fun k hk _ => ⟨hb7.block k hk.1, hk⟩
              have hbe7 := hbe6.trans (hb7.mono (by omega))
              have hN7 : w4.heap.size ≤ w7.heap.size := Nat.le_trans hN6 hb7.size
              have i9 : (q5.2.1.length : Int) < 260 := by omega
              clear hown5 hfr5 hss5 hfl6 hbe5 ht5 hown6 hfr6 hb6 hc6 hown56 hfr56 hfr6' hss6 ht6 hfl7 hbe6 hgr7 hb7 hat7 hL hA7 hAlt hfx
              go_wp2_with fail
              refine (held5_any gt T5 _ _ w7 ht7).mono ?_
              rintro e w8 ⟨rfl, rfl⟩
              go_wp2_with fail
              go_roundw
              case rel =>
                exact ⟨j + 1, b.length, A7, no + n6, c7, vs ++ vs6, Ss, T5, by go_num, rfl, by rw [HCP.out]; try rw [hev6], rfl, by omega, hTb, (by omega), by rw [HCP.out]; simp only [List.length_append, hno, hn6], hown7, by rw [HCP.out]; exact hfr7, hAo7, hss7, hSs5, by rw [HCP.out]; exact ht7, hT5w, hfl8, hzN, hN7, hbe7⟩
              case measure => (simp [intOf]; try omega)
            · have hcnt := Stm.cut_count ((Stm.cut (b.take at_)).2.1 ++ (b.drop at_).take (b.length - at_))
              rw [List.length_append, hsl] at hcnt
              have hheld5 := Stm.cut_held ((Stm.cut (b.take at_)).2.1 ++ (b.drop at_).take (b.length - at_))
              rw [hbd] at hst
              have HCP := Lib.hid hcp
              have HSL := Lib.hid hsl
              clear hcp hsl hsp
              have hAlt : ∀ g o s, Ao = some ⟨g, o, s⟩ → g < wr.heap.size := fun g o s e => by subst e; exact (hown.lt g rfl).2
              go_wp2_with fail
              refine (take5_any gt St _ (b.length - at_) _ _ ((b.drop at_).take (b.length - at_)) HSL.out (by omega) (by omega) wr hst ((lies_map_add haw at_).take (b.length - at_)) (fun b o s e h0 hm => by obtain ⟨o', s', e'⟩ := map_add_block e; exact hfar b o' s' e' (by omega) hm)).mono ?_
              rintro e w5 ⟨Ax, nx, kx, T5, rfl, hfx, ht5, hT5, hb5⟩
              generalize Stm.cut ((Stm.cut (b.take at_)).2.1 ++ (b.drop at_).take (b.length - at_)) = q5 at *
              obtain ⟨ev5, hev5⟩ : ∃ v : Int, (if q5.2.2 = true then (2 : Int) else 0) = v := ⟨_, rfl⟩
              have hev6 : (ev5 != 0) = q5.2.2 := by rw [← hev5]; cases q5.2.2 <;> rfl
              rw [hev5]
              have hnT : ∀ k, k < wr.heap.size → k ∉ St → k ∉ T5 := fun k hk hn hm => by rcases hT5 k hm with h1 | h1; exact hn h1; omega
              have hown5 := own_but hown hb5 (fun g e => by
                rcases Ao with _ | ⟨ga, oa, sa⟩
                · cases e
                · have e' : some ga = some g := e
                  cases e'
                  exact hAo _ _ _ rfl)
              have hfr5 : FrsIn (fun k => k ∉ T5 ∧ offRow Ao k) w5 vs (Stm.cut (b.take at_)).1 := hfr.move fun k hk hl => ⟨hb5.block k hl hk.1, hnT k hl hk.1, hk.2⟩
              have hAo5 : ∀ g o s, Ao = some ⟨g, o, s⟩ → g ∉ T5 := fun g o s e => hnT g (hAlt g o s e) (hAo g o s e)
              have hss5 := hss.but hb5 (fun k hk hm => (hSs k hk).2 hm)
              have hSs5 : ∀ k ∈ Ss, k < w4.heap.size ∧ k ∉ T5 := fun k hk => ⟨(hSs k hk).1, hnT k (hssl k hk) (hSs k hk).2⟩
              have hfl6 : FrsOf (fun k => k < w4.heap.size ∧ k ∉ T5) w5 Al nl kl (Stm.cut b).1 := hfl5.move fun k hk hl => ⟨hb5.block k hl hk.2, hk.1, hnT k hl hk.2⟩
              have hT5w : ∀ k ∈ T5, w.heap.size ≤ k := fun k hk => by rcases hT5 k hk with h1 | h1; exact hStw k h1; omega
              have hbe5 := hbe.trans (hb5.below hStw hzw)
              have hz5 := hbe5.size
              have hT5l := ht5.own
              have hwr5 := hb5.size
              clear hown hfr hAo hss hSs hst hStw hfl5 hbe hb5 hT5 hnT hssl hStl
              go_wp2_with fail
              refine (own5_any Ax nx kx q5.1 hfx.1 (by have := hfx.1; omega) w5 hfx.at_).mono ?_
              rintro e w6 ⟨A6, n6, c6, vs6, rfl, hn6, hown6, hfr6, hb6⟩
              obtain ⟨_, _, hlv6, hc6⟩ := ownN_at hown6
              have hown56 := own_but hown5 (But.of_below hb6 (Nat.le_refl _) []) (by simp)
              have hfr56 := hfr5.below hb6 (Nat.le_refl _)
              have hfr6' : FrsIn (fun k => k ∉ T5 ∧ offRow Ao k) w6 vs6 q5.1 := hfr6.move fun k hk _ => ⟨rfl, hk.1.2, fun g o s e => by have := hAlt g o s e; omega⟩
              have hss6 := hss5.below hb6
              have ht6 := ht5.below hb6
              have hfl7 := hfl6.below hb6
              have hbe6 := hbe5.trans (hb6.mono hz5)
              have hz6 := hbe6.size
              have hN6 : w4.heap.size ≤ w6.heap.size := Nat.le_trans hNr (Nat.le_trans hwr5 hb6.size)
              have hno2 : no ≤ 2000 := by have := Stm.cut_count (b.take at_); rw [List.length_take] at this; omega
              go_wp2_with (at_builtin; go_must (refine wpList_append_cells kitF _ rfl (.tmp 76) (.tmp 78) rfl w4.heap.size _ no vs rfl hown56 A6 n6 c6 vs6 rfl hlv6 hc6 (frs_one hfr6) (by omega) (by unfold maxLen; omega) hN6 ?_; intro A7 c7 w7 hown7 hgr7 hb7 hat7))
              have hL : ∀ k, k < w6.heap.size → offRow Ao k → w7.heap[k]? = w6.heap[k]? := fun k hk ho => hgr7.block k hk (fun e => by
                rcases Ao with _ | ⟨ga, oa, sa⟩
                · cases e
                · have e' : some k = some ga := e
                  exact ho _ _ _ rfl (Option.some.inj e'))
              have hA7 : ∀ g o s, A7 = some ⟨g, o, s⟩ → (∃ o' s', Ao = some ⟨g, o', s'⟩) ∨ g = w6.heap.size := fun g o s e => by
                rcases hat7 g o s e with h1 | h1
                · rcases Ao with _ | ⟨ga, oa, sa⟩
                  · cases h1
                  · have h2 : some ga = some g := h1
                    cases h2
                    exact .inl ⟨_, _, rfl⟩
                · exact .inr h1
              have hfr7 : FrsIn (fun k => k ∉ T5 ∧ offRow A7 k) w7 (vs ++ vs6) ((Stm.cut (b.take at_)).1 ++ q5.1) := (hfr56.append hfr6').move fun k hk hl => ⟨hL k hl hk.2, hk.1, fun g o s e => by
                rcases hA7 g o s e with ⟨o', s', e'⟩ | e'
                · exact hk.2 _ _ _ e'
                · omega⟩
              have hAo7 : ∀ g o s, A7 = some ⟨g, o, s⟩ → g ∉ T5 := fun g o s e hm => by
                rcases hA7 g o s e with ⟨o', s', e'⟩ | e'
                · exact hAo5 _ _ _ e' hm
                · have := hT5l g hm
                  have := hb6.size
                  omega
              have hss7 := hss6.over (fun k hk => (hSs5 k hk).1) hb7
              have ht7 : StAt w7 gt q5.2.1 q5.2.2 T5 := ht6.but (T := (Value.slice Ao no co).ownBlock.toList) ((But.refl _ _).grown hgr7 (fun k hk => .inl (by have hk' : (Value.slice Ao no co).ownBlock = some k := hk; rw [hk']; simp))) (fun k hk hm => by
                rcases Ao with _ | ⟨ga, oa, sa⟩
                · simp [Value.ownBlock] at hm
                · simp [Value.ownBlock] at hm
                  exact hAo5 _ _ _ rfl (hm ▸ hk))
              have hfl8 : FrsOf (fun k => k < w4.heap.size ∧ k ∉ T5) w7 Al nl kl (Stm.cut b).1 := hfl7.move fun k hk _ => ⟨hb7.block k hk.1, hk⟩
              have hbe7 := hbe6.trans (hb7.mono (by omega))
              have hN7 : w4.heap.size ≤ w7.heap.size := Nat.le_trans hN6 hb7.size
              have i9 : (q5.2.1.length : Int) < 260 := by omega
              clear hown5 hfr5 hss5 hfl6 hbe5 ht5 hown6 hfr6 hb6 hc6 hown56 hfr56 hfr6' hss6 ht6 hfl7 hbe6 hgr7 hb7 hat7 hL hA7 hAlt hfx
              go_wp2_with fail
              refine (held5_any gt T5 _ _ w7 ht7).mono ?_
              rintro e w8 ⟨rfl, rfl⟩
              go_wp2_with fail
              go_roundw
              case rel =>
                exact ⟨j + 1, b.length, A7, no + n6, c7, vs ++ vs6, Ss, T5, by go_num, rfl, by rw [HCP.out]; try rw [hev6], rfl, by omega, hTb, (by omega), by rw [HCP.out]; simp only [List.length_append, hno, hn6], hown7, by rw [HCP.out]; exact hfr7, hAo7, hss7, hSs5, by rw [HCP.out]; exact ht7, hT5w, hfl8, hzN, hN7, hbe7⟩
              case measure => (simp [intOf]; try omega)
      · obtain rfl : j = cuts.length := by omega
        have j2 : ¬ (cuts.length : Int) < (cuts.length : Int) := by omega
        have hTa : at_ ≤ b.length := by omega
        have hTb : b.length ≤ b.length := by omega
        skip
        have hsp : b.take at_ ++ (b.drop at_).take (b.length - at_) = b.take b.length := by
          rw [← List.take_add, show at_ + (b.length - at_) = b.length by omega]
        have hcp := Stm.cut_parts (b.take at_) ((b.drop at_).take (b.length - at_))
        rw [hsp, hbd, if_neg (by decide)] at hcp
        have hsl : ((b.drop at_).take (b.length - at_)).length = (b.length - at_) := by rw [List.length_take, List.length_drop]; omega
        have hheld := Stm.cut_held (b.take at_)
        have haw := ha.below hbe (Nat.le_refl _)
        have hfar := HFA.out St hStw
        have hStl := hst.own
        have hssl := hss.own
        have hzw := hbe.size
        by_cases hcap : c = at_
        · obtain rfl := hcap.symm
          have hsl := hsl.trans (show (b.length - at_) = 0 by omega)
          have hcnt := Stm.cut_count ((Stm.cut (b.take at_)).2.1 ++ (b.drop at_).take (b.length - at_))
          rw [List.length_append, hsl] at hcnt
          have hheld5 := Stm.cut_held ((Stm.cut (b.take at_)).2.1 ++ (b.drop at_).take (b.length - at_))
          rw [hbd] at hst
          have HCP := Lib.hid hcp
          have HSL := Lib.hid hsl
          clear hcp hsl hsp
          have hAlt : ∀ g o s, Ao = some ⟨g, o, s⟩ → g < wr.heap.size := fun g o s e => by subst e; exact (hown.lt g rfl).2
          go_wp2_with fail
          refine (take5_any gt St _ 0 _ _ ((b.drop at_).take (b.length - at_)) HSL.out (by omega) (by omega) wr hst (by rw [List.eq_nil_of_length_eq_zero (show ((b.drop at_).take (b.length - at_)).length = 0 by have := HSL.out; omega)]; exact Lies.nil _ _) (fun b o s e h0 => by omega)).mono ?_
          rintro e w5 ⟨Ax, nx, kx, T5, rfl, hfx, ht5, hT5, hb5⟩
          generalize Stm.cut ((Stm.cut (b.take at_)).2.1 ++ (b.drop at_).take (b.length - at_)) = q5 at *
          obtain ⟨ev5, hev5⟩ : ∃ v : Int, (if q5.2.2 = true then (2 : Int) else 0) = v := ⟨_, rfl⟩
          have hev6 : (ev5 != 0) = q5.2.2 := by rw [← hev5]; cases q5.2.2 <;> rfl
          rw [hev5]
          have hnT : ∀ k, k < wr.heap.size → k ∉ St → k ∉ T5 := fun k hk hn hm => by rcases hT5 k hm with h1 | h1; exact hn h1; omega
          have hown5 := own_but hown hb5 (fun g e => by
            rcases Ao with _ | ⟨ga, oa, sa⟩
            · cases e
            · have e' : some ga = some g := e
              cases e'
              exact hAo _ _ _ rfl)
          have hfr5 : FrsIn (fun k => k ∉ T5 ∧ offRow Ao k) w5 vs (Stm.cut (b.take at_)).1 := hfr.move fun k hk hl => ⟨hb5.block k hl hk.1, hnT k hl hk.1, hk.2⟩
          have hAo5 : ∀ g o s, Ao = some ⟨g, o, s⟩ → g ∉ T5 := fun g o s e => hnT g (hAlt g o s e) (hAo g o s e)
          have hss5 := hss.but hb5 (fun k hk hm => (hSs k hk).2 hm)
          have hSs5 : ∀ k ∈ Ss, k < w4.heap.size ∧ k ∉ T5 := fun k hk => ⟨(hSs k hk).1, hnT k (hssl k hk) (hSs k hk).2⟩
          have hfl6 : FrsOf (fun k => k < w4.heap.size ∧ k ∉ T5) w5 Al nl kl (Stm.cut b).1 := hfl5.move fun k hk hl => ⟨hb5.block k hl hk.2, hk.1, hnT k hl hk.2⟩
          have hT5w : ∀ k ∈ T5, w.heap.size ≤ k := fun k hk => by rcases hT5 k hk with h1 | h1; exact hStw k h1; omega
          have hbe5 := hbe.trans (hb5.below hStw hzw)
          have hz5 := hbe5.size
          have hT5l := ht5.own
          have hwr5 := hb5.size
          clear hown hfr hAo hss hSs hst hStw hfl5 hbe hb5 hT5 hnT hssl hStl
          go_wp2_with fail
          refine (own5_any Ax nx kx q5.1 hfx.1 (by have := hfx.1; omega) w5 hfx.at_).mono ?_
          rintro e w6 ⟨A6, n6, c6, vs6, rfl, hn6, hown6, hfr6, hb6⟩
          obtain ⟨_, _, hlv6, hc6⟩ := ownN_at hown6
          have hown56 := own_but hown5 (But.of_below hb6 (Nat.le_refl _) []) (by simp)
          have hfr56 := hfr5.below hb6 (Nat.le_refl _)
          have hfr6' : FrsIn (fun k => k ∉ T5 ∧ offRow Ao k) w6 vs6 q5.1 := hfr6.move fun k hk _ => ⟨rfl, hk.1.2, fun g o s e => by have := hAlt g o s e; omega⟩
          have hss6 := hss5.below hb6
          have ht6 := ht5.below hb6
          have hfl7 := hfl6.below hb6
          have hbe6 := hbe5.trans (hb6.mono hz5)
          have hz6 := hbe6.size
          have hN6 : w4.heap.size ≤ w6.heap.size := Nat.le_trans hNr (Nat.le_trans hwr5 hb6.size)
          have hno2 : no ≤ 2000 := by have := Stm.cut_count (b.take at_); rw [List.length_take] at this; omega
          go_wp2_with (at_builtin; go_must (refine wpList_append_cells kitF _ rfl (.tmp 76) (.tmp 78) rfl w4.heap.size _ no vs rfl hown56 A6 n6 c6 vs6 rfl hlv6 hc6 (frs_one hfr6) (by omega) (by unfold maxLen; omega) hN6 ?_; intro A7 c7 w7 hown7 hgr7 hb7 hat7))
          have hL : ∀ k, k < w6.heap.size → offRow Ao k → w7.heap[k]? = w6.heap[k]? := fun k hk ho => hgr7.block k hk (fun e => by
            rcases Ao with _ | ⟨ga, oa, sa⟩
            · cases e
            · have e' : some k = some ga := e
              exact ho _ _ _ rfl (Option.some.inj e'))
          have hA7 : ∀ g o s, A7 = some ⟨g, o, s⟩ → (∃ o' s', Ao = some ⟨g, o', s'⟩) ∨ g = w6.heap.size := fun g o s e => by
            rcases hat7 g o s e with h1 | h1
            · rcases Ao with _ | ⟨ga, oa, sa⟩
              · cases h1
              · have h2 : some ga = some g := h1
                cases h2
                exact .inl ⟨_, _, rfl⟩
            · exact .inr h1
          have hfr7 : FrsIn (fun k => k ∉ T5 ∧ offRow A7 k) w7 (vs ++ vs6) ((Stm.cut (b.take at_)).1 ++ q5.1) := (hfr56.append hfr6').move fun k hk hl => ⟨hL k hl hk.2, hk.1, fun g o s e => by
            rcases hA7 g o s e with ⟨o', s', e'⟩ | e'
            · exact hk.2 _ _ _ e'
            · omega⟩
          have hAo7 : ∀ g o s, A7 = some ⟨g, o, s⟩ → g ∉ T5 := fun g o s e hm => by
            rcases hA7 g o s e with ⟨o', s', e'⟩ | e'
            · exact hAo5 _ _ _ e' hm
            · have := hT5l g hm
              have := hb6.size
              omega
          have hss7 := hss6.over (fun k hk => (hSs5 k hk).1) hb7
          have ht7 : StAt w7 gt q5.2.1 q5.2.2 T5 := ht6.but (T := (Value.slice Ao no co).ownBlock.toList) ((But.refl _ _).grown hgr7 (fun k hk => .inl (by have hk' : (Value.slice Ao no co).ownBlock = some k := hk; rw [hk']; simp))) (fun k hk hm => by
            rcases Ao with _ | ⟨ga, oa, sa⟩
            · simp [Value.ownBlock] at hm
            · simp [Value.ownBlock] at hm
              exact hAo5 _ _ _ rfl (hm ▸ hk))
          have hfl8 : FrsOf (fun k => k < w4.heap.size ∧ k ∉ T5) w7 Al nl kl (Stm.cut b).1 := hfl7.move fun k hk _ => ⟨hb7.block k hk.1, hk⟩
          have hbe7 := hbe6.trans (hb7.mono (by omega))
          have hN7 : w4.heap.size ≤ w7.heap.size := Nat.le_trans hN6 hb7.size
          have i9 : (q5.2.1.length : Int) < 260 := by omega
          clear hown5 hfr5 hss5 hfl6 hbe5 ht5 hown6 hfr6 hb6 hc6 hown56 hfr56 hfr6' hss6 ht6 hfl7 hbe6 hgr7 hb7 hat7 hL hA7 hAlt hfx
          go_wp2_with fail
          refine (held5_any gt T5 _ _ w7 ht7).mono ?_
          rintro e w8 ⟨rfl, rfl⟩
          go_wp2_with fail
          go_roundw
          case rel =>
            exact ⟨cuts.length + 1, b.length, A7, no + n6, c7, vs ++ vs6, Ss, T5, by go_num, rfl, by rw [HCP.out]; try rw [hev6], rfl, by omega, hTb, (fun _ => .inr rfl), by rw [HCP.out]; simp only [List.length_append, hno, hn6], hown7, by rw [HCP.out]; exact hfr7, hAo7, hss7, hSs5, by rw [HCP.out]; exact ht7, hT5w, hfl8, hzN, hN7, hbe7⟩
          case measure => (simp [intOf]; try omega)
        · have hcnt := Stm.cut_count ((Stm.cut (b.take at_)).2.1 ++ (b.drop at_).take (b.length - at_))
          rw [List.length_append, hsl] at hcnt
          have hheld5 := Stm.cut_held ((Stm.cut (b.take at_)).2.1 ++ (b.drop at_).take (b.length - at_))
          rw [hbd] at hst
          have HCP := Lib.hid hcp
          have HSL := Lib.hid hsl
          clear hcp hsl hsp
          have hAlt : ∀ g o s, Ao = some ⟨g, o, s⟩ → g < wr.heap.size := fun g o s e => by subst e; exact (hown.lt g rfl).2
          go_wp2_with fail
          refine (take5_any gt St _ (b.length - at_) _ _ ((b.drop at_).take (b.length - at_)) HSL.out (by omega) (by omega) wr hst ((lies_map_add haw at_).take (b.length - at_)) (fun b o s e h0 hm => by obtain ⟨o', s', e'⟩ := map_add_block e; exact hfar b o' s' e' (by omega) hm)).mono ?_
          rintro e w5 ⟨Ax, nx, kx, T5, rfl, hfx, ht5, hT5, hb5⟩
          generalize Stm.cut ((Stm.cut (b.take at_)).2.1 ++ (b.drop at_).take (b.length - at_)) = q5 at *
          obtain ⟨ev5, hev5⟩ : ∃ v : Int, (if q5.2.2 = true then (2 : Int) else 0) = v := ⟨_, rfl⟩
          have hev6 : (ev5 != 0) = q5.2.2 := by rw [← hev5]; cases q5.2.2 <;> rfl
          rw [hev5]
          have hnT : ∀ k, k < wr.heap.size → k ∉ St → k ∉ T5 := fun k hk hn hm => by rcases hT5 k hm with h1 | h1; exact hn h1; omega
          have hown5 := own_but hown hb5 (fun g e => by
            rcases Ao with _ | ⟨ga, oa, sa⟩
            · cases e
            · have e' : some ga = some g := e
              cases e'
              exact hAo _ _ _ rfl)
          have hfr5 : FrsIn (fun k => k ∉ T5 ∧ offRow Ao k) w5 vs (Stm.cut (b.take at_)).1 := hfr.move fun k hk hl => ⟨hb5.block k hl hk.1, hnT k hl hk.1, hk.2⟩
          have hAo5 : ∀ g o s, Ao = some ⟨g, o, s⟩ → g ∉ T5 := fun g o s e => hnT g (hAlt g o s e) (hAo g o s e)
          have hss5 := hss.but hb5 (fun k hk hm => (hSs k hk).2 hm)
          have hSs5 : ∀ k ∈ Ss, k < w4.heap.size ∧ k ∉ T5 := fun k hk => ⟨(hSs k hk).1, hnT k (hssl k hk) (hSs k hk).2⟩
          have hfl6 : FrsOf (fun k => k < w4.heap.size ∧ k ∉ T5) w5 Al nl kl (Stm.cut b).1 := hfl5.move fun k hk hl => ⟨hb5.block k hl hk.2, hk.1, hnT k hl hk.2⟩
          have hT5w : ∀ k ∈ T5, w.heap.size ≤ k := fun k hk => by rcases hT5 k hk with h1 | h1; exact hStw k h1; omega
          have hbe5 := hbe.trans (hb5.below hStw hzw)
          have hz5 := hbe5.size
          have hT5l := ht5.own
          have hwr5 := hb5.size
          clear hown hfr hAo hss hSs hst hStw hfl5 hbe hb5 hT5 hnT hssl hStl
          go_wp2_with fail
          refine (own5_any Ax nx kx q5.1 hfx.1 (by have := hfx.1; omega) w5 hfx.at_).mono ?_
          rintro e w6 ⟨A6, n6, c6, vs6, rfl, hn6, hown6, hfr6, hb6⟩
          obtain ⟨_, _, hlv6, hc6⟩ := ownN_at hown6
          have hown56 := own_but hown5 (But.of_below hb6 (Nat.le_refl _) []) (by simp)
          have hfr56 := hfr5.below hb6 (Nat.le_refl _)
          have hfr6' : FrsIn (fun k => k ∉ T5 ∧ offRow Ao k) w6 vs6 q5.1 := hfr6.move fun k hk _ => ⟨rfl, hk.1.2, fun g o s e => by have := hAlt g o s e; omega⟩
          have hss6 := hss5.below hb6
          have ht6 := ht5.below hb6
          have hfl7 := hfl6.below hb6
          have hbe6 := hbe5.trans (hb6.mono hz5)
          have hz6 := hbe6.size
          have hN6 : w4.heap.size ≤ w6.heap.size := Nat.le_trans hNr (Nat.le_trans hwr5 hb6.size)
          have hno2 : no ≤ 2000 := by have := Stm.cut_count (b.take at_); rw [List.length_take] at this; omega
          go_wp2_with (at_builtin; go_must (refine wpList_append_cells kitF _ rfl (.tmp 76) (.tmp 78) rfl w4.heap.size _ no vs rfl hown56 A6 n6 c6 vs6 rfl hlv6 hc6 (frs_one hfr6) (by omega) (by unfold maxLen; omega) hN6 ?_; intro A7 c7 w7 hown7 hgr7 hb7 hat7))
          have hL : ∀ k, k < w6.heap.size → offRow Ao k → w7.heap[k]? = w6.heap[k]? := fun k hk ho => hgr7.block k hk (fun e => by
            rcases Ao with _ | ⟨ga, oa, sa⟩
            · cases e
            · have e' : some k = some ga := e
              exact ho _ _ _ rfl (Option.some.inj e'))
          have hA7 : ∀ g o s, A7 = some ⟨g, o, s⟩ → (∃ o' s', Ao = some ⟨g, o', s'⟩) ∨ g = w6.heap.size := fun g o s e => by
            rcases hat7 g o s e with h1 | h1
            · rcases Ao with _ | ⟨ga, oa, sa⟩
              · cases h1
              · have h2 : some ga = some g := h1
                cases h2
                exact .inl ⟨_, _, rfl⟩
            · exact .inr h1
          have hfr7 : FrsIn (fun k => k ∉ T5 ∧ offRow A7 k) w7 (vs ++ vs6) ((Stm.cut (b.take at_)).1 ++ q5.1) := (hfr56.append hfr6').move fun k hk hl => ⟨hL k hl hk.2, hk.1, fun g o s e => by
            rcases hA7 g o s e with ⟨o', s', e'⟩ | e'
            · exact hk.2 _ _ _ e'
            · omega⟩
          have hAo7 : ∀ g o s, A7 = some ⟨g, o, s⟩ → g ∉ T5 := fun g o s e hm => by
            rcases hA7 g o s e with ⟨o', s', e'⟩ | e'
            · exact hAo5 _ _ _ e' hm
            · have := hT5l g hm
              have := hb6.size
              omega
          have hss7 := hss6.over (fun k hk => (hSs5 k hk).1) hb7
          have ht7 : StAt w7 gt q5.2.1 q5.2.2 T5 := ht6.but (T := (Value.slice Ao no co).ownBlock.toList) ((But.refl _ _).grown hgr7 (fun k hk => .inl (by have hk' : (Value.slice Ao no co).ownBlock = some k := hk; rw [hk']; simp))) (fun k hk hm => by
            rcases Ao with _ | ⟨ga, oa, sa⟩
            · simp [Value.ownBlock] at hm
            · simp [Value.ownBlock] at hm
              exact hAo5 _ _ _ rfl (hm ▸ hk))
          have hfl8 : FrsOf (fun k => k < w4.heap.size ∧ k ∉ T5) w7 Al nl kl (Stm.cut b).1 := hfl7.move fun k hk _ => ⟨hb7.block k hk.1, hk⟩
          have hbe7 := hbe6.trans (hb7.mono (by omega))
          have hN7 : w4.heap.size ≤ w7.heap.size := Nat.le_trans hN6 hb7.size
          have i9 : (q5.2.1.length : Int) < 260 := by omega
          clear hown5 hfr5 hss5 hfl6 hbe5 ht5 hown6 hfr6 hb6 hc6 hown56 hfr56 hfr6' hss6 ht6 hfl7 hbe6 hgr7 hb7 hat7 hL hA7 hAlt hfx
          go_wp2_with fail
          refine (held5_any gt T5 _ _ w7 ht7).mono ?_
          rintro e w8 ⟨rfl, rfl⟩
          go_wp2_with fail
          go_roundw
          case rel =>
            exact ⟨cuts.length + 1, b.length, A7, no + n6, c7, vs ++ vs6, Ss, T5, by go_num, rfl, by rw [HCP.out]; try rw [hev6], rfl, by omega, hTb, (fun _ => .inr rfl), by rw [HCP.out]; simp only [List.length_append, hno, hn6], hown7, by rw [HCP.out]; exact hfr7, hAo7, hss7, hSs5, by rw [HCP.out]; exact ht7, hT5w, hfl8, hzN, hN7, hbe7⟩
          case measure => (simp [intOf]; try omega)
    · have hPQ : (Stm.cut b).1 = (Stm.cut (b.take at_)).1 ∧ (Stm.cut b).2.2 = (Stm.cut (b.take at_)).2.2 ∧ ((Stm.cut (b.take at_)).2.2 = true ∨ (Stm.cut b).2.1 = (Stm.cut (b.take at_)).2.1) := by
        have hcp := Stm.cut_parts (b.take at_) (b.drop at_)
        rw [List.take_append_drop] at hcp
        by_cases hbd : (Stm.cut (b.take at_)).2.2 = true
        · rw [if_pos hbd] at hcp
          exact ⟨by rw [hcp], by rw [hcp, hbd], .inl hbd⟩
        · have hj2 : j = cuts.length + 1 := by
            rcases Nat.lt_or_ge cuts.length j with h1 | h1
            · omega
            · exact absurd ⟨by simpa using hbd, h1⟩ hgo
          rcases hend hj2 with h1 | h1
          · exact absurd h1 hbd
          · rw [h1, List.take_length]; exact ⟨rfl, rfl, .inr rfl⟩
      obtain ⟨hp1, hp2, hp3⟩ := hPQ
      have hsh := Stm.cut_held b
      have hcnt := Stm.cut_count b
      have hcnt2 := Stm.cut_count (b.take at_)
      rw [List.length_take] at hcnt2
      have hzw := hbe.size
      have hgo2 : (Stm.cut (b.take at_)).2.2 = true ∨ ((Stm.cut (b.take at_)).2.2 = false ∧ cuts.length < j) := by
        cases h1 : (Stm.cut (b.take at_)).2.2 with
        | true => exact .inl rfl
        | false =>
          refine .inr ⟨rfl, ?_⟩
          rcases Nat.lt_or_ge cuts.length j with h2 | h2
          · exact h2
          · exact absurd ⟨h1, h2⟩ hgo
      rw [hp2] at hss hev2
      have HP1 := Lib.hid hp1
      clear hp1 hp2 hgo hend ha hb hj
      generalize Stm.cut (b.take at_) = q at *
      generalize Stm.cut b = p at *
      have hown_ := ownN_at hown
      obtain ⟨_, _, _, hco⟩ := hown_
      have hq2 : FrsAt wr Ao q.1 := ⟨_, hco, hfr.move fun _ _ _ => ⟨rfl, trivial⟩⟩
      have hn1 := hfl5.1
      rcases hgo2 with hbd | ⟨hbd, hjl⟩
      · by_cases hjl : j ≤ cuts.length
        · have j1 : (j : Int) ≤ (cuts.length : Int) := by omega
          rw [hbd] at hss hst hev2 ⊢
          go_wp2_with fail
          refine (own5_any Al nl kl p.1 hn1 (by omega) _ hfl5.at_).mono ?_
          rintro e w6 ⟨A6, n6, c6, vs6, rfl, hn6, hown6, hfr6, hb6⟩
          obtain ⟨_, _, _, hc6⟩ := ownN_at hown6
          have hq1 : FrsAt w6 A6 p.1 := ⟨_, hc6, hfr6.move fun _ _ _ => ⟨rfl, trivial⟩⟩
          have hq3 := FrsBy.below hq2 hb6 (Nat.le_refl _)
          have hss6 := hss.below hb6
          have hst6 := hst.below hb6
          have hbe6 := hbe.trans (hb6.mono hzw)
          have hz6 := hbe6.size
          clear hss hst hown hfr hAo hSs hStw hfl5 hbe hown6 hfr6 hb6 hco hq2
          go_wp2_with fail
          refine (rsames5_any A6 Ao n6 no c6 co _ _ hn6 hno (by unfold maxLen; omega) w6 hq1 hq3).mono ?_
          rintro e w7 ⟨rfl, hb7⟩
          rw [decide_eq_true HP1.out]
          have hss7 := hss6.below hb7
          have hst7 := hst6.below hb7
          have hbe7 := hbe6.trans (hb7.mono hz6)
          clear hss6 hst6 hbe6 hb7 hq1 hq3 hc6
          have i9 : ((p.2.1.length : Nat) : Int) < 260 := by omega
          go_wp2_with (first | (go_at_call 12; (with_reducible refine (held5_any gs _ _ _ _ hss7).mono ?_); rintro e w' ⟨rfl, rfl⟩) | (go_at_call 12; (with_reducible refine (held5_any gt _ _ _ _ hst7).mono ?_); rintro e w' ⟨rfl, rfl⟩) | (go_at_call 13; (with_reducible refine (broken5_any gs _ _ _ _ hss7).mono ?_); rintro e w' ⟨rfl, rfl⟩) | (go_at_call 13; (with_reducible refine (broken5_any gt _ _ _ _ hst7).mono ?_); rintro e w' ⟨rfl, rfl⟩) | fail)
          go_ret
          exact ⟨rfl, hbe7⟩
        · have j1 : ¬ (j : Int) ≤ (cuts.length : Int) := by omega
          rw [hbd] at hss hst hev2 ⊢
          go_wp2_with fail
          refine (own5_any Al nl kl p.1 hn1 (by omega) _ hfl5.at_).mono ?_
          rintro e w6 ⟨A6, n6, c6, vs6, rfl, hn6, hown6, hfr6, hb6⟩
          obtain ⟨_, _, _, hc6⟩ := ownN_at hown6
          have hq1 : FrsAt w6 A6 p.1 := ⟨_, hc6, hfr6.move fun _ _ _ => ⟨rfl, trivial⟩⟩
          have hq3 := FrsBy.below hq2 hb6 (Nat.le_refl _)
          have hss6 := hss.below hb6
          have hst6 := hst.below hb6
          have hbe6 := hbe.trans (hb6.mono hzw)
          have hz6 := hbe6.size
          clear hss hst hown hfr hAo hSs hStw hfl5 hbe hown6 hfr6 hb6 hco hq2
          go_wp2_with fail
          refine (rsames5_any A6 Ao n6 no c6 co _ _ hn6 hno (by unfold maxLen; omega) w6 hq1 hq3).mono ?_
          rintro e w7 ⟨rfl, hb7⟩
          rw [decide_eq_true HP1.out]
          have hss7 := hss6.below hb7
          have hst7 := hst6.below hb7
          have hbe7 := hbe6.trans (hb7.mono hz6)
          clear hss6 hst6 hbe6 hb7 hq1 hq3 hc6
          have i9 : ((p.2.1.length : Nat) : Int) < 260 := by omega
          go_wp2_with (first | (go_at_call 12; (with_reducible refine (held5_any gs _ _ _ _ hss7).mono ?_); rintro e w' ⟨rfl, rfl⟩) | (go_at_call 12; (with_reducible refine (held5_any gt _ _ _ _ hst7).mono ?_); rintro e w' ⟨rfl, rfl⟩) | (go_at_call 13; (with_reducible refine (broken5_any gs _ _ _ _ hss7).mono ?_); rintro e w' ⟨rfl, rfl⟩) | (go_at_call 13; (with_reducible refine (broken5_any gt _ _ _ _ hst7).mono ?_); rintro e w' ⟨rfl, rfl⟩) | fail)
          go_ret
          exact ⟨rfl, hbe7⟩
      · have j1 : ¬ (j : Int) ≤ (cuts.length : Int) := by omega
        have hp4 : p.2.1 = q.2.1 := by
          rcases hp3 with h1 | h1
          · rw [hbd] at h1; cases h1
          · exact h1
        rw [hp4] at hss hsh
        rw [hbd] at hss hst hev2 ⊢
        go_wp2_with fail
        refine (own5_any Al nl kl p.1 hn1 (by omega) _ hfl5.at_).mono ?_
        rintro e w6 ⟨A6, n6, c6, vs6, rfl, hn6, hown6, hfr6, hb6⟩
        obtain ⟨_, _, _, hc6⟩ := ownN_at hown6
        have hq1 : FrsAt w6 A6 p.1 := ⟨_, hc6, hfr6.move fun _ _ _ => ⟨rfl, trivial⟩⟩
        have hq3 := FrsBy.below hq2 hb6 (Nat.le_refl _)
        have hss6 := hss.below hb6
        have hst6 := hst.below hb6
        have hbe6 := hbe.trans (hb6.mono hzw)
        have hz6 := hbe6.size
        clear hss hst hown hfr hAo hSs hStw hfl5 hbe hown6 hfr6 hb6 hco hq2
        go_wp2_with fail
        refine (rsames5_any A6 Ao n6 no c6 co _ _ hn6 hno (by unfold maxLen; omega) w6 hq1 hq3).mono ?_
        rintro e w7 ⟨rfl, hb7⟩
        rw [decide_eq_true HP1.out]
        have hss7 := hss6.below hb7
        have hst7 := hst6.below hb7
        have hbe7 := hbe6.trans (hb7.mono hz6)
        clear hss6 hst6 hbe6 hb7 hq1 hq3 hc6
        have i9 : ((q.2.1.length : Nat) : Int) < 260 := by omega
        go_wp2_with (first | (go_at_call 12; (with_reducible refine (held5_any gs _ _ _ _ hss7).mono ?_); rintro e w' ⟨rfl, rfl⟩) | (go_at_call 12; (with_reducible refine (held5_any gt _ _ _ _ hst7).mono ?_); rintro e w' ⟨rfl, rfl⟩) | (go_at_call 13; (with_reducible refine (broken5_any gs _ _ _ _ hss7).mono ?_); rintro e w' ⟨rfl, rfl⟩) | (go_at_call 13; (with_reducible refine (broken5_any gt _ _ _ _ hst7).mono ?_); rintro e w' ⟨rfl, rfl⟩) | fail)
        go_ret
        exact ⟨rfl, hbe7⟩

set_option maxRecDepth 100000 in
set_option maxHeartbeats 1000000 in
theorem parted_any (A B : Option Addr) (n c m d : Nat) (b : List UInt8) (cuts : List Int) (hn : b.length = n) (hm : cuts.length = m) (hnc : n ≤ c) (_ : n ≤ maxLen) (_ : m ≤ maxLen) (w : World) (ha : Lies u8v w A b) (hb : Lies i64v w B cuts) :
    Calls Try.prog 4 #[.slice A n c, .slice B m d] w fun e w' => e = .returned (.bool true) ∧ Below w.heap.size w w' := by
  by_cases h1 : n ≤ 2000
  · by_cases h2 : m ≤ 100
    · exact parted_small A B n c m d b cuts hn hm hnc h1 h2 w ha hb
    · have g1 : ¬ (2000 : Int) < (n : Int) := by omega
      have g2 : (100 : Int) < (m : Int) := by omega
      clear hn hm ha hb h1 h2
      go_enter Try.func4, Try.ntmps4
      go_wp2_with fail
      refine (awake_any _).mono ?_
      rintro e w1 ⟨rfl, hb1⟩
      go_wp2_with fail
      go_ret
      exact ⟨rfl, hb1⟩
  · have g1 : (2000 : Int) < (n : Int) := by omega
    clear hn hm ha hb h1
    go_enter Try.func4, Try.ntmps4
    go_wp2_with fail
    refine (awake_any _).mono ?_
    rintro e w1 ⟨rfl, hb1⟩
    go_wp2_with fail
    go_ret
    exact ⟨rfl, hb1⟩
end Go.Proofs.Ytophchhienlafaa
