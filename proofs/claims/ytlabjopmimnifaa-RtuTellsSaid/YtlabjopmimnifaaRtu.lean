/-
  Frames of a bus: what the document's layer 3 answers.
-/
import Derived.Test.YtlabjopmimnifaaCut
import Derived.Deep.RegionLaw
namespace Go.Proofs.Ytlabjopmimnifaa
open Go.RowKit

namespace Rtu
def codeP (p : List UInt8) : Nat := if p.length = 0 then 3 else if 253 < p.length then 4 else 0
def bytes (u : UInt8) (p : List UInt8) : List UInt8 := if codeP p = 0 then Crc.put (u :: p) else []
def codeB (b : List UInt8) : Nat := if b.length < 4 then 3 else if 256 < b.length then 4 else if Crc.isPut b then 0 else 6
def unit (b : List UInt8) : UInt8 := if codeB b = 0 then b.getD 0 0 else 0
def pdu (b : List UInt8) : List UInt8 := if codeB b = 0 then (Crc.front b).drop 1 else []
theorem codeP_none (p : List UInt8) (h : p.length = 0) : codeP p = 3 := by unfold codeP; rw [if_pos h]
theorem codeP_many (p : List UInt8) (h : 253 < p.length) : codeP p = 4 := by unfold codeP; rw [if_neg (by omega), if_pos h]
theorem codeP_good (p : List UInt8) (h0 : 0 < p.length) (h1 : p.length ≤ 253) : codeP p = 0 := by unfold codeP; rw [if_neg (by omega), if_neg (by omega)]
theorem bytes_bad (u : UInt8) (p : List UInt8) (h : codeP p ≠ 0) : bytes u p = [] := by unfold bytes; rw [if_neg h]
theorem bytes_good (u : UInt8) (p : List UInt8) (h : codeP p = 0) : bytes u p = Crc.put (u :: p) := by unfold bytes; rw [if_pos h]
theorem codeB_short (b : List UInt8) (h : b.length < 4) : codeB b = 3 := by unfold codeB; rw [if_pos h]
theorem codeB_many (b : List UInt8) (h : 256 < b.length) : codeB b = 4 := by unfold codeB; rw [if_neg (by omega), if_pos h]
theorem codeB_sum (b : List UInt8) (h0 : 4 ≤ b.length) (h1 : b.length ≤ 256) (h : Crc.isPut b = false) : codeB b = 6 := by unfold codeB; rw [if_neg (by omega), if_neg (by omega), h]; rfl
theorem codeB_good (b : List UInt8) (h0 : 4 ≤ b.length) (h1 : b.length ≤ 256) (h : Crc.isPut b = true) : codeB b = 0 := by unfold codeB; rw [if_neg (by omega), if_neg (by omega), h]; rfl
theorem unit_bad (b : List UInt8) (h : codeB b ≠ 0) : unit b = 0 := by unfold unit; rw [if_neg h]
theorem pdu_bad (b : List UInt8) (h : codeB b ≠ 0) : pdu b = [] := by unfold pdu; rw [if_neg h]
def same (u : UInt8) (p : List UInt8) (v : UInt8) (q : List UInt8) : Bool := u == v && p == q
end Rtu

/-- What Bytes of layer 3 leaves: the bytes are the call's own. -/
def BytesPost (w : World) (u : UInt8) (p : List UInt8) (e : Ending) (w' : World) : Prop :=
  ∃ A n c, e = .returned (.tuple #[.slice A n c, .int .i64 ((Rtu.codeP p : Nat) : Int)]) ∧ (Rtu.bytes u p).length = n ∧ w'.ownsRow w.heap.size 5 1 (.slice A n c) n ((Rtu.bytes u p).map u8v) ∧ Below w.heap.size w w'
theorem BytesPost.bad (w w' : World) (u : UInt8) (p : List UInt8) (k : Nat) (h : Rtu.codeP p = k) (hk : k ≠ 0) (hb : Below w.heap.size w w') : BytesPost w u p (.returned (.tuple #[.slice Option.none 0 0, .int .i64 (k : Int)])) w' :=
  have hc : Rtu.bytes u p = [] := Rtu.bytes_bad u p (by rw [h]; exact hk)
  ⟨Option.none, 0, 0, by rw [h], by rw [hc]; rfl, by rw [hc]; exact World.ownsRow_nil _ _ _ _, hb⟩
theorem BytesPost.good (w w' : World) (u : UInt8) (p : List UInt8) (A : Option Addr) (n c : Nat) (h : Rtu.codeP p = 0) (hn : p.length + 3 = n) (hy : w'.ownsRow w.heap.size 5 1 (.slice A n c) n ((Crc.put (u :: p)).map u8v)) (hb : Below w.heap.size w w') :
    BytesPost w u p (.returned (.tuple #[.slice A n c, .int .i64 0])) w' :=
  have hc' := Rtu.bytes_good u p h
  ⟨A, n, c, by rw [h]; rfl, by rw [hc', Crc.put_length, List.length_cons]; omega, by rw [hc']; exact hy, hb⟩

/-- What Read of layer 3 leaves. -/
def ReadPost (w : World) (b : List UInt8) (e : Ending) (w' : World) : Prop :=
  ∃ A n c, e = .returned (.tuple #[.agg #[u8v (Rtu.unit b), .slice A n c], .int .i64 ((Rtu.codeB b : Nat) : Int)]) ∧ (Rtu.pdu b).length = n ∧ n ≤ c ∧ c ≤ maxLen ∧ Lies u8v w' A (Rtu.pdu b) ∧ Below w.heap.size w w'
theorem ReadPost.bad (w w' : World) (b : List UInt8) (k : Nat) (h : Rtu.codeB b = k) (hk : k ≠ 0) (hb : Below w.heap.size w w') : ReadPost w b (.returned (.tuple #[.agg #[.int .u8 0, .slice Option.none 0 0], .int .i64 (k : Int)])) w' :=
  have hc := Rtu.pdu_bad b (by rw [h]; exact hk)
  have hu := Rtu.unit_bad b (by rw [h]; exact hk)
  ⟨Option.none, 0, 0, by rw [h, hu]; rfl, by rw [hc]; rfl, Nat.le_refl _, Nat.zero_le _, by rw [hc]; exact Lies.nil _ _, hb⟩
theorem ReadPost.good (w w' : World) (b : List UInt8) (x : UInt8) (A : Option Addr) (n c : Nat) (h : Rtu.codeB b = 0) (hx : b.getD 0 0 = x) (hn : b.length - 3 = n) (hc : n ≤ c) (hm : c ≤ maxLen) (hy : Lies u8v w' A ((Crc.front b).drop 1)) (hb : Below w.heap.size w w') :
    ReadPost w b (.returned (.tuple #[.agg #[u8v x, .slice A n c], .int .i64 0])) w' :=
  have hp : Rtu.pdu b = (Crc.front b).drop 1 := by unfold Rtu.pdu; rw [if_pos h]
  have hu : Rtu.unit b = x := by unfold Rtu.unit; rw [if_pos h]; exact hx
  ⟨A, n, c, by rw [h, hu]; rfl, by rw [hp, List.length_drop, Crc.front_length]; omega, hc, hm, by rw [hp]; exact hy, hb⟩

theorem own_lower {w : World} {B B' e n : Nat} {v : Value} {xs : List Value} (h : w.ownsRow B e 1 v n xs) (hB : B' ≤ B) : w.ownsRow B' e 1 v n xs := by
  refine ⟨h.1, ?_⟩
  rcases h.2 with h' | ⟨g, cap, cur, hv, hb, rest⟩
  · exact .inl h'
  · exact .inr ⟨g, cap, cur, hv, Nat.le_trans hB hb, rest⟩
theorem own_below {w w' : World} {B e n : Nat} {v : Value} {xs : List Value} (h : w.ownsRow B e 1 v n xs) (hb : Below w.heap.size w w') : w'.ownsRow B e 1 v n xs :=
  h.kept ⟨hb.os, hb.tape, hb.output, hb.size, fun k hk _ => hb.block k hk⟩ (row := none) (by rcases h.2 with ⟨rfl, _⟩ | ⟨g, cap, cur, rfl, _⟩ <;> simp [Value.ownBlock])

set_option maxRecDepth 100000 in
set_option maxHeartbeats 400000 in
theorem rbytes3_any (u : UInt8) (A : Option Addr) (n c : Nat) (p : List UInt8) (hn : p.length = n) (hm : n ≤ 60000) (w : World) (hb : Lies u8v w A p) :
    Calls Try.prog 8 #[.agg #[u8v u, .slice A n c]] w (BytesPost w u p) := by
  by_cases h0 : n = 0
  · have HC := Lib.hid (Rtu.codeP_none p (by omega))
    have h0' : ((n : Int) == 0) = true := by rw [beq_iff_eq]; omega
    clear hn hb h0
    go_enter Try.func8, Try.ntmps8
    go_wp2
    go_ret2
    exact BytesPost.bad _ _ _ _ 3 HC.out (by omega) ((Below.refl _ _).alloc (Nat.le_refl _) _)
  · have h0' : ((n : Int) == 0) = false := by rw [beq_eq_false_iff_ne]; omega
    by_cases h1 : 253 < n
    · have HC := Lib.hid (Rtu.codeP_many p (by omega))
      have h1' : (253 : Int) < n := by omega
      clear hn hb h0 h1
      go_enter Try.func8, Try.ntmps8
      go_wp2
      go_ret2
      exact BytesPost.bad _ _ _ _ 4 HC.out (by omega) ((Below.refl _ _).alloc (Nat.le_refl _) _)
    · have HC := Lib.hid (Rtu.codeP_good p (by omega) (by omega))
      have h1' : ¬ (253 : Int) < n := by omega
      have HN := Lib.hid hn
      clear hn h0
      go_enter Try.func8, Try.ntmps8
      go_wp2_with (first
        | (at_builtin; go_must (refine wpList_append_lies kit8 one8 _ rfl (.tmp 14) (.tmp 16) rfl w.heap.size _ 1 [u] rfl (own_lit u8v (w.alloc (.cells #[u8v u, .slice A n c] _)) #[u8v u] _ _ _ 1 [u] rfl rfl (by simp) (by simp) (by unfold maxLen; omega)) A n c p rfl HN.out ((hb.alloc _).alloc _) (by omega) (by unfold maxLen; omega) (by simp; omega) ?_; intro A2 c2 w2 hown2 _ hb2))
        | (go_at_call 18; refine (rput_own A2 (1 + n) c2 ([u] ++ p) (by rw [List.length_append, HN.out]; rfl) (by omega) _ (own_at hown2).2.2.2).mono ?_; rintro e w3 ⟨A3, c3, rfl, hown3, hbe3⟩))
      go_ret2
      exact BytesPost.good _ _ _ _ A3 (1 + n + 2) c3 HC.out (by have := HN.out; omega) (own_lower hown3 (by have := hb2.size; simp at this; omega)) ((((Below.refl _ w).alloc (Nat.le_refl _) _).alloc (by simp) _).trans (hb2.trans (hbe3.mono (by have := hb2.size; simp at this; omega))))

theorem row_two {w : World} {g : Nat} {a b : Value} {t : TypeId} (h : w.heap[g]? = some (.cells #[a, b] t (0, 0))) :
    w.cell? ⟨g, 0, none⟩ = some a ∧ w.cell? ⟨g, 1, none⟩ = some b ∧ w.frozen? ⟨g, 0, none⟩ = false ∧ w.frozen? ⟨g, 1, none⟩ = false := by
  simp [World.cell?, World.frozen?, h]

set_option maxRecDepth 100000 in
set_option maxHeartbeats 400000 in
theorem rread3_any (A : Option Addr) (n c : Nat) (b : List UInt8) (hn : b.length = n) (hnc : n ≤ c) (hm : n ≤ 60000) (w : World) (hb : Lies u8v w A b) :
    Calls Try.prog 10 #[.slice A n c] w (ReadPost w b) := by
  by_cases h0 : n < 4
  · have HC := Lib.hid (Rtu.codeB_short b (by omega))
    clear hn hb
    go_enter Try.func10, Try.ntmps10
    go_wp2
    refine bodyPost_ret_by (v := .tuple #[.agg #[.int .u8 0, .slice none 0 0], .int .i64 3]) (by simp [results, Try.f10, go_sem]) rfl ?_
    exact ReadPost.bad _ _ _ 3 HC.out (by omega) ((Below.refl _ _).alloc (Nat.le_refl _) _)
  · by_cases h1 : 256 < n
    · have HC := Lib.hid (Rtu.codeB_many b (by omega))
      clear hn hb
      go_enter Try.func10, Try.ntmps10
      go_wp2
      refine bodyPost_ret_by (v := .tuple #[.agg #[.int .u8 0, .slice none 0 0], .int .i64 4]) (by simp [results, Try.f10, go_sem]) rfl ?_
      exact ReadPost.bad _ _ _ 4 HC.out (by omega) ((Below.refl _ _).alloc (Nat.le_refl _) _)
    · have HN := Lib.hid hn
      clear hn
      cases hp : Crc.isPut b with
      | false =>
        have HC := Lib.hid (Rtu.codeB_sum b (by have := HN.out; omega) (by have := HN.out; omega) hp)
        have HP := Lib.hid hp
        clear hp
        go_enter Try.func10, Try.ntmps10
        go_wp2_with fail
        refine (rcut_any A n c b HN.out hnc (by omega) _ (hb.alloc _)).mono ?_
        rintro e w2 ⟨A2, n2, c2, rfl, hn2, hnc2, hc2, hy2, hbe2⟩
        rw [HP.out]
        have hbw2 := ((Below.refl _ w).alloc (Nat.le_refl _) _).trans (hbe2.mono (by simp))
        have hrow : w2.heap[w.heap.size]? = some (.cells #[.int .u8 0, .slice none 0 0] 30 (0, 0)) := (hbe2.block _ (by simp)).trans (heap_alloc_new w _)
        obtain ⟨hr0, hr1, hf0, hf1⟩ := row_two hrow
        clear hrow
        go_wp2
        refine bodyPost_ret_by (v := .tuple #[.agg #[.int .u8 0, .slice none 0 0], .int .i64 6]) (by simp [results, Try.f10, go_sem, hr0, hr1]) rfl ?_
        exact ReadPost.bad _ _ _ 6 HC.out (by omega) ((hbw2.setCell (p := ⟨w.heap.size, 0, none⟩) (Nat.le_refl _) _).setCell (p := ⟨w.heap.size, 1, none⟩) (Nat.le_refl _) _)
      | true =>
        have HC := Lib.hid (Rtu.codeB_good b (by have := HN.out; omega) (by have := HN.out; omega) hp)
        have HK : Hid (Crc.cut b = Crc.front b) := Lib.hid (by unfold Crc.cut; rw [hp, if_pos rfl])
        have HP := Lib.hid hp
        clear hp
        have hmx : Try.prog.follows .mixedOrders = true := by kernel_rfl
        go_enter Try.func10, Try.ntmps10
        go_wp2_with fail
        refine (rcut_any A n c b HN.out hnc (by omega) _ (hb.alloc _)).mono ?_
        rintro e w2 ⟨A2, n2, c2, rfl, hn2, hnc2, hc2, hy2, hbe2⟩
        rw [HP.out]
        rw [HK.out] at hn2 hy2
        have hbw2 := ((Below.refl _ w).alloc (Nat.le_refl _) _).trans (hbe2.mono (by simp))
        have hrow : w2.heap[w.heap.size]? = some (.cells #[.int .u8 0, .slice none 0 0] 30 (0, 0)) := (hbe2.block _ (by simp)).trans (heap_alloc_new w _)
        obtain ⟨hr0, hr1, hf0, hf1⟩ := row_two hrow
        obtain ⟨m, rfl⟩ : ∃ m, n2 = m + 1 := ⟨n2 - 1, by rw [Crc.front_length] at hn2; have := HN.out; omega⟩
        obtain ⟨b1, o1, rfl, hb1, hc1⟩ := hy2.at_ (by omega)
        obtain ⟨x, hx1, hx⟩ : ∃ x, (Crc.front b)[0]? = some x ∧ w2.cell? ⟨b1, o1, none⟩ = some (.int .u8 (x.toNat : Int)) := ⟨_, List.getElem?_eq_getElem (by omega), hc1 0 (by omega)⟩
        have HX : Hid (b.getD 0 0 = x) := Lib.hid (by
          unfold Crc.front at hx1
          rw [List.getElem?_take, if_pos (by have := HN.out; omega)] at hx1
          rw [List.getD_eq_getElem?_getD, hx1]; rfl)
        have HD := Lib.hid (hy2.drop 1)
        have HN2 := Lib.hid hn2
        have hm1 : 1 ≤ m := by rw [Crc.front_length] at hn2; have := HN.out; omega
        have hm2 : m ≤ 256 := by rw [Crc.front_length] at hn2; have := HN.out; omega
        have hc21 : ¬ c2 = 1 := by omega
        have hne : b1 ≠ w.heap.size := by
          rintro rfl
          have h0 := hc1 0 (by omega)
          have h1 := hc1 1 (by omega)
          rw [cell_of_row w2 _ _ _ _ _ hrow] at h0 h1
          rcases o1 with _ | _ | o
          · simp at h1
          · simp at h0
          · simp at h0
        clear hc1 hn2 hx1 hrow
        go_wp2
        go_region
        all_goals go_wp2
        all_goals
          refine bodyPost_ret_by (v := .tuple #[.agg #[.int .u8 (x.toNat : Int), .slice (some ⟨b1, o1 + 1, none⟩) m (c2 - 1)], .int .i64 0]) (by simp [results, Try.f10, go_sem, hr0, hr1]) rfl ?_
          refine ReadPost.good _ _ _ x _ m (c2 - 1) HC.out HX.out (by have := HN2.out; rw [Crc.front_length] at this; omega) (by omega) (by omega) ?_ (drewN_below ((hbw2.setCell (p := ⟨w.heap.size, 0, none⟩) (Nat.le_refl _) _).setCell (p := ⟨w.heap.size, 1, none⟩) (Nat.le_refl _) _) 1)
          exact (HD.out.setCell_far (g := w.heap.size) hne 0 _).setCell_far hne 1 _

set_option maxRecDepth 100000 in
set_option maxHeartbeats 400000 in
theorem rsame3_any (u v : UInt8) (A B : Option Addr) (n m c d : Nat) (p q : List UInt8) (hn : p.length = n) (hm : q.length = m) (hmn : n ≤ maxLen) (w : World) (h1 : Lies u8v w A p) (h2 : Lies u8v w B q) :
    Calls Try.prog 12 #[.agg #[u8v u, .slice A n c], .agg #[u8v v, .slice B m d]] w fun e w' => e = .returned (.bool (Rtu.same u p v q)) ∧ Below w.heap.size w w' := by
  have HN := Lib.hid hn
  have HM := Lib.hid hm
  clear hn hm
  by_cases huv : u = v
  · subst huv
    have HS : Hid (Rtu.same u p u q = (p == q)) := Lib.hid (by unfold Rtu.same; simp)
    go_enter Try.func12, Try.ntmps12
    go_wp2_with fail
    refine (rsame8_any A B n m c d p q HN.out HM.out hmn _ ((h1.alloc _).alloc _) ((h2.alloc _).alloc _)).mono ?_
    rintro e w2 ⟨rfl, k, rfl⟩
    go_wp2_with fail
    go_ret
    exact ⟨by rw [HS.out]; rfl, drewN_below (((Below.refl _ w).alloc (Nat.le_refl _) _).alloc (by simp) _) k⟩
  · have HS : Hid (Rtu.same u p v q = false) := Lib.hid (by unfold Rtu.same; rw [beq_eq_false_iff_ne.2 huv]; rfl)
    have hne : ((u.toNat : Int) == (v.toNat : Int)) = false := by
      rw [beq_eq_false_iff_ne]
      intro e
      exact huv (UInt8.toNat_inj.1 (by exact_mod_cast e))
    unfold u8v
    clear huv
    go_enter Try.func12, Try.ntmps12
    go_wp2_with fail
    go_ret
    exact ⟨by rw [HS.out]; rfl, ((Below.refl _ w).alloc (Nat.le_refl _) _).alloc (by simp) _⟩
end Go.Proofs.Ytlabjopmimnifaa
