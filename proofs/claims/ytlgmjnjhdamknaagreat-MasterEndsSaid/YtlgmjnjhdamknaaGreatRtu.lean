
/-
  Frames of a bus: what the document's layer 3 answers.
-/
import Derived.Test.YtlgmjnjhdamknaaGreatMore
import Derived.Deep.RegionLaw
namespace Go.Proofs.YtlgmjnjhdamknaaGreat
open Go.RowKit

namespace Rtu
def codeP (p : List UInt8) : Nat := if p.length = 0 then 3 else if 253 < p.length then 4 else 0
def bytes (u : UInt8) (p : List UInt8) : List UInt8 := if codeP p = 0 then Crc.put (u :: p) else []
def codeB (b : List UInt8) : Nat := if b.length < 4 then 3 else if 256 < b.length then 4 else if Crc.isPut b then 0 else 6
def unit (b : List UInt8) : UInt8 := if codeB b = 0 then b.getD 0 0 else 0
def pdu (b : List UInt8) : List UInt8 := if codeB b = 0 then (Crc.front b).drop 1 else []
theorem codeP_none (p : List UInt8) (h : p.length = 0) : codeP p = 3 := by unfold codeP; rw [if_pos h]
theorem codeP_many (p : List UInt8) (h : 253 < p.length) : codeP p = 4 := by unfold codeP; rw [if_neg (by omega), if_pos h]
theorem codeP_good (p : List UInt8) (h0 : 0 < p.length) (h1 : p.length ≤ 253) : codeP p = 0 := by unfold codeP; rw [if_neg (by omega), if_neg (by omega)]
theorem bytes_bad (u : UInt8) (p : List UInt8) (h : codeP p ≠ 0) : bytes u p = [] := by unfold bytes; rw [if_neg h]
theorem bytes_good (u : UInt8) (p : List UInt8) (h : codeP p = 0) : bytes u p = Crc.put (u :: p) := by unfold bytes; rw [if_pos h]
theorem codeB_short (b : List UInt8) (h : b.length < 4) : codeB b = 3 := by unfold codeB; rw [if_pos h]
theorem codeB_many (b : List UInt8) (h : 256 < b.length) : codeB b = 4 := by unfold codeB; rw [if_neg (by omega), if_pos h]
theorem codeB_sum (b : List UInt8) (h0 : 4 ≤ b.length) (h1 : b.length ≤ 256) (h : Crc.isPut b = false) : codeB b = 6 := by unfold codeB; rw [if_neg (by omega), if_neg (by omega), h]; rfl
theorem codeB_good (b : List UInt8) (h0 : 4 ≤ b.length) (h1 : b.length ≤ 256) (h : Crc.isPut b = true) : codeB b = 0 := by unfold codeB; rw [if_neg (by omega), if_neg (by omega), h]; rfl
theorem unit_bad (b : List UInt8) (h : codeB b ≠ 0) : unit b = 0 := by unfold unit; rw [if_neg h]
theorem pdu_bad (b : List UInt8) (h : codeB b ≠ 0) : pdu b = [] := by unfold pdu; rw [if_neg h]
def same (u : UInt8) (p : List UInt8) (v : UInt8) (q : List UInt8) : Bool := u == v && p == q
end Rtu

/-- What Bytes of layer 3 leaves: the bytes are the call's own. -/
def BytesPost3 (w : World) (u : UInt8) (p : List UInt8) (e : Ending) (w' : World) : Prop :=
  ∃ A n c, e = .returned (.tuple #[.slice A n c, .int .i64 ((Rtu.codeP p : Nat) : Int)]) ∧ (Rtu.bytes u p).length = n ∧ w'.ownsRow w.heap.size 5 1 (.slice A n c) n ((Rtu.bytes u p).map u8v) ∧ Below w.heap.size w w'
theorem BytesPost3.bad (w w' : World) (u : UInt8) (p : List UInt8) (k : Nat) (h : Rtu.codeP p = k) (hk : k ≠ 0) (hb : Below w.heap.size w w') : BytesPost3 w u p (.returned (.tuple #[.slice Option.none 0 0, .int .i64 (k : Int)])) w' :=
  have hc : Rtu.bytes u p = [] := Rtu.bytes_bad u p (by rw [h]; exact hk)
  ⟨Option.none, 0, 0, by rw [h], by rw [hc]; rfl, by rw [hc]; exact World.ownsRow_nil _ _ _ _, hb⟩
theorem BytesPost3.good (w w' : World) (u : UInt8) (p : List UInt8) (A : Option Addr) (n c : Nat) (h : Rtu.codeP p = 0) (hn : p.length + 3 = n) (hy : w'.ownsRow w.heap.size 5 1 (.slice A n c) n ((Crc.put (u :: p)).map u8v)) (hb : Below w.heap.size w w') :
    BytesPost3 w u p (.returned (.tuple #[.slice A n c, .int .i64 0])) w' :=
  have hc' := Rtu.bytes_good u p h
  ⟨A, n, c, by rw [h]; rfl, by rw [hc', Crc.put_length, List.length_cons]; omega, by rw [hc']; exact hy, hb⟩

/-- What Read of layer 3 leaves. -/
def ReadPost3 (w : World) (b : List UInt8) (e : Ending) (w' : World) : Prop :=
  ∃ A n c, e = .returned (.tuple #[.agg #[u8v (Rtu.unit b), .slice A n c], .int .i64 ((Rtu.codeB b : Nat) : Int)]) ∧ (Rtu.pdu b).length = n ∧ n ≤ c ∧ c ≤ maxLen ∧ Lies u8v w' A (Rtu.pdu b) ∧ Below w.heap.size w w'
theorem ReadPost3.bad (w w' : World) (b : List UInt8) (k : Nat) (h : Rtu.codeB b = k) (hk : k ≠ 0) (hb : Below w.heap.size w w') : ReadPost3 w b (.returned (.tuple #[.agg #[.int .u8 0, .slice Option.none 0 0], .int .i64 (k : Int)])) w' :=
  have hc := Rtu.pdu_bad b (by rw [h]; exact hk)
  have hu := Rtu.unit_bad b (by rw [h]; exact hk)
  ⟨Option.none, 0, 0, by rw [h, hu]; rfl, by rw [hc]; rfl, Nat.le_refl _, Nat.zero_le _, by rw [hc]; exact Lies.nil _ _, hb⟩
theorem ReadPost3.good (w w' : World) (b : List UInt8) (x : UInt8) (A : Option Addr) (n c : Nat) (h : Rtu.codeB b = 0) (hx : b.getD 0 0 = x) (hn : b.length - 3 = n) (hc : n ≤ c) (hm : c ≤ maxLen) (hy : Lies u8v w' A ((Crc.front b).drop 1)) (hb : Below w.heap.size w w') :
    ReadPost3 w b (.returned (.tuple #[.agg #[u8v x, .slice A n c], .int .i64 0])) w' :=
  have hp : Rtu.pdu b = (Crc.front b).drop 1 := by unfold Rtu.pdu; rw [if_pos h]
  have hu : Rtu.unit b = x := by unfold Rtu.unit; rw [if_pos h]; exact hx
  ⟨A, n, c, by rw [h, hu]; rfl, by rw [hp, List.length_drop, Crc.front_length]; omega, hc, hm, by rw [hp]; exact hy, hb⟩

set_option maxRecDepth 100000 in
set_option maxHeartbeats 400000 in
theorem rbytes3_any (u : UInt8) (A : Option Addr) (n c : Nat) (p : List UInt8) (hn : p.length = n) (hm : n ≤ 60000) (w : World) (hb : Lies u8v w A p) :
    Calls Tryz.prog 31 #[.agg #[u8v u, .slice A n c]] w (BytesPost3 w u p) := by
  by_cases h0 : n = 0
  · have HC := Lib.hid (Rtu.codeP_none p (by omega))
    have h0' : ((n : Int) == 0) = true := by rw [beq_iff_eq]; omega
    clear hn hb h0
    go_enter Tryz.func31, Tryz.ntmps31
    go_wp2
    go_ret2
    exact BytesPost3.bad _ _ _ _ 3 HC.out (by omega) ((Below.refl _ _).alloc (Nat.le_refl _) _)
  · have h0' : ((n : Int) == 0) = false := by rw [beq_eq_false_iff_ne]; omega
    by_cases h1 : 253 < n
    · have HC := Lib.hid (Rtu.codeP_many p (by omega))
      have h1' : (253 : Int) < n := by omega
      clear hn hb h0 h1
      go_enter Tryz.func31, Tryz.ntmps31
      go_wp2
      go_ret2
      exact BytesPost3.bad _ _ _ _ 4 HC.out (by omega) ((Below.refl _ _).alloc (Nat.le_refl _) _)
    · have HC := Lib.hid (Rtu.codeP_good p (by omega) (by omega))
      have h1' : ¬ (253 : Int) < n := by omega
      have HN := Lib.hid hn
      clear hn h0
      go_enter Tryz.func31, Tryz.ntmps31
      go_wp2_with (first
        | (at_builtin; go_must (refine wpList_append_lies kit8 one8 _ rfl (.tmp 14) (.tmp 16) rfl w.heap.size _ 1 [u] rfl (own_lit u8v (w.alloc (.cells #[u8v u, .slice A n c] _)) #[u8v u] _ _ _ 1 [u] rfl rfl (by simp) (by simp) (by unfold maxLen; omega)) A n c p rfl HN.out ((hb.alloc _).alloc _) (by omega) (by unfold maxLen; omega) (by simp; omega) ?_; intro A2 c2 w2 hown2 _ hb2))
        | (go_at_call 58; refine (rput_own A2 (1 + n) c2 ([u] ++ p) (by rw [List.length_append, HN.out]; rfl) (by omega) _ (own_at hown2).2.2.2).mono ?_; rintro e w3 ⟨A3, c3, rfl, hown3, hbe3⟩))
      go_ret2
      exact BytesPost3.good _ _ _ _ A3 (1 + n + 2) c3 HC.out (by have := HN.out; omega) (own_lower hown3 (by have := hb2.size; simp at this; omega)) ((((Below.refl _ w).alloc (Nat.le_refl _) _).alloc (by simp) _).trans (hb2.trans (hbe3.mono (by have := hb2.size; simp at this; omega))))

set_option maxRecDepth 100000 in
set_option maxHeartbeats 400000 in
theorem rread3_any (A : Option Addr) (n c : Nat) (b : List UInt8) (hn : b.length = n) (hnc : n ≤ c) (hm : n ≤ 60000) (w : World) (hb : Lies u8v w A b) :
    Calls Tryz.prog 33 #[.slice A n c] w (ReadPost3 w b) := by
  by_cases h0 : n < 4
  · have HC := Lib.hid (Rtu.codeB_short b (by omega))
    clear hn hb
    go_enter Tryz.func33, Tryz.ntmps33
    go_wp2
    refine bodyPost_ret_by (v := .tuple #[.agg #[.int .u8 0, .slice none 0 0], .int .i64 3]) (by simp [results, Tryz.f33, go_sem]) rfl ?_
    exact ReadPost3.bad _ _ _ 3 HC.out (by omega) ((Below.refl _ _).alloc (Nat.le_refl _) _)
  · by_cases h1 : 256 < n
    · have HC := Lib.hid (Rtu.codeB_many b (by omega))
      clear hn hb
      go_enter Tryz.func33, Tryz.ntmps33
      go_wp2
      refine bodyPost_ret_by (v := .tuple #[.agg #[.int .u8 0, .slice none 0 0], .int .i64 4]) (by simp [results, Tryz.f33, go_sem]) rfl ?_
      exact ReadPost3.bad _ _ _ 4 HC.out (by omega) ((Below.refl _ _).alloc (Nat.le_refl _) _)
    · have HN := Lib.hid hn
      clear hn
      cases hp : Crc.isPut b with
      | false =>
        have HC := Lib.hid (Rtu.codeB_sum b (by have := HN.out; omega) (by have := HN.out; omega) hp)
        have HP := Lib.hid hp
        clear hp
        go_enter Tryz.func33, Tryz.ntmps33
        go_wp2_with fail
        refine (rcut_any A n c b HN.out hnc (by omega) _ (hb.alloc _)).mono ?_
        rintro e w2 ⟨A2, n2, c2, rfl, hn2, hnc2, hc2, hy2, hbe2⟩
        rw [HP.out]
        have hbw2 := ((Below.refl _ w).alloc (Nat.le_refl _) _).trans (hbe2.mono (by simp))
        have hrow : w2.heap[w.heap.size]? = some (.cells #[.int .u8 0, .slice none 0 0] 84 (0, 0)) := (hbe2.block _ (by simp)).trans (heap_alloc_new w _)
        obtain ⟨hr0, hr1, hf0, hf1⟩ := row_two hrow
        clear hrow
        go_wp2
        refine bodyPost_ret_by (v := .tuple #[.agg #[.int .u8 0, .slice none 0 0], .int .i64 6]) (by simp [results, Tryz.f33, go_sem, hr0, hr1]) rfl ?_
        exact ReadPost3.bad _ _ _ 6 HC.out (by omega) ((hbw2.setCell (p := ⟨w.heap.size, 0, none⟩) (Nat.le_refl _) _).setCell (p := ⟨w.heap.size, 1, none⟩) (Nat.le_refl _) _)
      | true =>
        have HC := Lib.hid (Rtu.codeB_good b (by have := HN.out; omega) (by have := HN.out; omega) hp)
        have HK : Hid (Crc.cut b = Crc.front b) := Lib.hid (by unfold Crc.cut; rw [hp, if_pos rfl])
        have HP := Lib.hid hp
        clear hp
        have hmx : Tryz.prog.follows .mixedOrders = true := by kernel_rfl
        go_enter Tryz.func33, Tryz.ntmps33
        go_wp2_with fail
        refine (rcut_any A n c b HN.out hnc (by omega) _ (hb.alloc _)).mono ?_
        rintro e w2 ⟨A2, n2, c2, rfl, hn2, hnc2, hc2, hy2, hbe2⟩
        rw [HP.out]
        rw [HK.out] at hn2 hy2
        have hbw2 := ((Below.refl _ w).alloc (Nat.le_refl _) _).trans (hbe2.mono (by simp))
        have hrow : w2.heap[w.heap.size]? = some (.cells #[.int .u8 0, .slice none 0 0] 84 (0, 0)) := (hbe2.block _ (by simp)).trans (heap_alloc_new w _)
        obtain ⟨hr0, hr1, hf0, hf1⟩ := row_two hrow
        obtain ⟨m, rfl⟩ : ∃ m, n2 = m + 1 := ⟨n2 - 1, by rw [Crc.front_length] at hn2; have := HN.out; omega⟩
        obtain ⟨b1, o1, rfl, hb1, hc1⟩ := hy2.at_ (by omega)
        obtain ⟨x, hx1, hx⟩ : ∃ x, (Crc.front b)[0]? = some x ∧ w2.cell? ⟨b1, o1, none⟩ = some (.int .u8 (x.toNat : Int)) := ⟨_, List.getElem?_eq_getElem (by omega), hc1 0 (by omega)⟩
        have HX : Hid (b.getD 0 0 = x) := Lib.hid (by
          unfold Crc.front at hx1
          rw [List.getElem?_take, if_pos (by have := HN.out; omega)] at hx1
          rw [List.getD_eq_getElem?_getD, hx1]; rfl)
        have HD := Lib.hid (hy2.drop 1)
        have HN2 := Lib.hid hn2
        have hm1 : 1 ≤ m := by rw [Crc.front_length] at hn2; have := HN.out; omega
        have hm2 : m ≤ 256 := by rw [Crc.front_length] at hn2; have := HN.out; omega
        have hc21 : ¬ c2 = 1 := by omega
        have hne : b1 ≠ w.heap.size := by
          rintro rfl
          have h0 := hc1 0 (by omega)
          have h1 := hc1 1 (by omega)
          rw [cell_of_row w2 _ _ _ _ _ hrow] at h0 h1
          rcases o1 with _ | _ | o
          · simp at h1
          · simp at h0
          · simp at h0
        clear hc1 hn2 hx1 hrow
        go_wp2
        go_region
        all_goals go_wp2
        all_goals
          refine bodyPost_ret_by (v := .tuple #[.agg #[.int .u8 (x.toNat : Int), .slice (some ⟨b1, o1 + 1, none⟩) m (c2 - 1)], .int .i64 0]) (by simp [results, Tryz.f33, go_sem, hr0, hr1]) rfl ?_
          refine ReadPost3.good _ _ _ x _ m (c2 - 1) HC.out HX.out (by have := HN2.out; rw [Crc.front_length] at this; omega) (by omega) (by omega) ?_ (drewN_below ((hbw2.setCell (p := ⟨w.heap.size, 0, none⟩) (Nat.le_refl _) _).setCell (p := ⟨w.heap.size, 1, none⟩) (Nat.le_refl _) _) 1)
          exact (HD.out.setCell_far (g := w.heap.size) hne 0 _).setCell_far hne 1 _

end Go.Proofs.YtlgmjnjhdamknaaGreat

/-
  Plain mathematics of frames: there and back; turned bits.
-/
namespace Go.Proofs.YtlgmjnjhdamknaaGreat
open Go.RowKit

namespace Crc
theorem more_put (l : List UInt8) : more 65535 (put l) = 0 := by
  unfold put tail
  rw [more_append, more_own _ (more_lt l (by omega))]
theorem isPut_eq {b : List UInt8} (h : isPut b = true) : 2 ≤ b.length ∧ put (front b) = b := by
  unfold isPut at h
  rw [Bool.and_eq_true, beq_iff_eq] at h
  exact ⟨of_decide_eq_true h.1, h.2⟩
theorem more_isPut {b : List UInt8} (h : isPut b = true) : more 65535 b = 0 := by
  have := more_put (front b)
  rwa [(isPut_eq h).2] at this
theorem front_put_eq (l : List UInt8) : front (put l) = l := by
  unfold front
  rw [put_length, Nat.add_sub_cancel]
  unfold put
  rw [List.take_left]
theorem isPut_put (l : List UInt8) : isPut (put l) = true := by
  rw [isPut_long _ (by rw [put_length]; omega), front_put_eq]
  simp
end Crc
namespace Rtu
theorem codeP_zero {p : List UInt8} (h : codeP p = 0) : 0 < p.length ∧ p.length ≤ 253 := by
  unfold codeP at h
  split at h
  · omega
  · split at h <;> omega
theorem codeB_zero {b : List UInt8} (h : codeB b = 0) : 4 ≤ b.length ∧ b.length ≤ 256 ∧ Crc.isPut b = true := by
  unfold codeB at h
  split at h
  · omega
  · split at h
    · omega
    · split at h
      · exact ⟨by omega, by omega, by assumption⟩
      · omega
theorem bytes_length {u : UInt8} {p : List UInt8} (h : codeP p = 0) : (bytes u p).length = p.length + 3 := by
  rw [bytes_good u p h, Crc.put_length, List.length_cons]
theorem there {u : UInt8} {p : List UInt8} (h : codeP p = 0) : codeB (bytes u p) = 0 := by
  have h2 := codeP_zero h
  have h3 := bytes_length (u := u) h
  exact codeB_good _ (by omega) (by omega) (by rw [bytes_good u p h]; exact Crc.isPut_put _)
theorem there_unit {u : UInt8} {p : List UInt8} (h : codeP p = 0) : unit (bytes u p) = u := by
  unfold unit
  rw [if_pos (there h), bytes_good u p h]
  rfl
theorem there_pdu {u : UInt8} {p : List UInt8} (h : codeP p = 0) : pdu (bytes u p) = p := by
  unfold pdu
  rw [if_pos (there h), bytes_good u p h, Crc.front_put_eq]
  rfl
theorem head_tail (f : List UInt8) (h : 0 < f.length) : f = f[0] :: f.tail := by
  cases f with
  | nil => simp at h
  | cons x r => rfl
theorem front_parts {b : List UInt8} (h : codeB b = 0) : Crc.front b = unit b :: pdu b := by
  have h2 := codeB_zero h
  unfold pdu unit
  rw [if_pos h, if_pos h]
  have hl : (Crc.front b).length = b.length - 2 := Crc.front_length b
  have h0 : b.getD 0 0 = (Crc.front b)[0]'(by omega) := by
    unfold Crc.front
    rw [List.getElem_take, List.getD_eq_getElem?_getD, List.getElem?_eq_getElem (by omega)]
    rfl
  rw [h0, List.drop_one]
  exact head_tail _ (by omega)
theorem back_code {b : List UInt8} (h : codeB b = 0) : codeP (pdu b) = 0 := by
  have h2 := codeB_zero h
  have h3 := congrArg List.length (front_parts h)
  rw [Crc.front_length, List.length_cons] at h3
  exact codeP_good _ (by omega) (by omega)
theorem back_bytes {b : List UInt8} (h : codeB b = 0) : bytes (unit b) (pdu b) = b := by
  rw [bytes_good _ _ (back_code h), ← front_parts h]
  exact (Crc.isPut_eq (codeB_zero h).2.2).2
theorem same_self (u : UInt8) (p : List UInt8) : same u p u p = true := by unfold same; simp
/-- Turned in up to 16 bits, at least one of them, the bytes of a frame are none. -/
theorem turned {u : UInt8} {p cs : List UInt8} (h : codeP p = 0) (at_ t : Nat) (hl : cs.length = (bytes u p).length) (hn : Crc.num cs = Crc.num (bytes u p) ^^^ (t * 2 ^ at_)) (ha : at_ ≤ 8 * (bytes u p).length) (ht : t < 65536) (h0 : t ≠ 0) : codeB cs = 6 := by
  have h2 := codeP_zero h
  have h3 := bytes_length (u := u) h
  refine codeB_sum cs (by omega) (by omega) ?_
  cases hp : Crc.isPut cs with
  | false => rfl
  | true =>
    have h4 := Crc.more_isPut hp
    have h5 := Crc.more_isPut (codeB_zero (there (u := u) h)).2.2
    exact absurd (h5.trans h4.symm) (Crc.more_burst (bytes u p) cs 65535 at_ t hl hn ha ht h0)
end Rtu
end Go.Proofs.YtlgmjnjhdamknaaGreat
