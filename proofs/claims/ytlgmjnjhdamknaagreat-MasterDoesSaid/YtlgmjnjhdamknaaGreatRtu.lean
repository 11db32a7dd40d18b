
/- A part of the proof of the law MasterDoes. -/
import Derived.Test.YtlgmjnjhdamknaaGreatMem
import Derived.Test.YtlgmjnjhdamknaaGreatMore
import Derived.Deep.RegionLaw
import Derived.Test.YtlgmjnjhdamknaaGreatAn
import Derived.Test.YtlgmjnjhdamknaaGreatRs2
namespace Go.Proofs.YtlgmjnjhdamknaaGreat
open Go.RowKit

namespace Rtu
def codeP (p : List UInt8) : Nat := if p.length = 0 then 3 else if 253 < p.length then 4 else 0
def bytes (u : UInt8) (p : List UInt8) : List UInt8 := if codeP p = 0 then Crc.put (u :: p) else []
def codeB (b : List UInt8) : Nat := if b.length < 4 then 3 else if 256 < b.length then 4 else if Crc.isPut b then 0 else 6
def unit (b : List UInt8) : UInt8 := if codeB b = 0 then b.getD 0 0 else 0
def pdu (b : List UInt8) : List UInt8 := if codeB b = 0 then (Crc.front b).drop 1 else []
theorem codeP_none (p : List UInt8) (h : p.length = 0) : codeP p = 3 := by unfold codeP; rw [if_pos h]
theorem codeP_many (p : List UInt8) (h : 253 < p.length) : codeP p = 4 := by unfold codeP; rw [if_neg (by omega), if_pos h]
theorem codeP_good (p : List UInt8) (h0 : 0 < p.length) (h1 : p.length ≤ 253) : codeP p = 0 := by unfold codeP; rw [if_neg (by omega), if_neg (by omega)]
theorem bytes_bad (u : UInt8) (p : List UInt8) (h : codeP p ≠ 0) : bytes u p = [] := by unfold bytes; rw [if_neg h]
theorem bytes_good (u : UInt8) (p : List UInt8) (h : codeP p = 0) : bytes u p = Crc.put (u :: p) := by unfold bytes; rw [if_pos h]
theorem codeB_short (b : List UInt8) (h : b.length < 4) : codeB b = 3 := by unfold codeB; rw [if_pos h]
theorem codeB_many (b : List UInt8) (h : 256 < b.length) : codeB b = 4 := by unfold codeB; rw [if_neg (by omega), if_pos h]
theorem codeB_sum (b : List UInt8) (h0 : 4 ≤ b.length) (h1 : b.length ≤ 256) (h : Crc.isPut b = false) : codeB b = 6 := by unfold codeB; rw [if_neg (by omega), if_neg (by omega), h]; rfl
theorem codeB_good (b : List UInt8) (h0 : 4 ≤ b.length) (h1 : b.length ≤ 256) (h : Crc.isPut b = true) : codeB b = 0 := by unfold codeB; rw [if_neg (by omega), if_neg (by omega), h]; rfl
theorem unit_bad (b : List UInt8) (h : codeB b ≠ 0) : unit b = 0 := by unfold unit; rw [if_neg h]
theorem pdu_bad (b : List UInt8) (h : codeB b ≠ 0) : pdu b = [] := by unfold pdu; rw [if_neg h]
end Rtu

def BytesPost3 (w : World) (u : UInt8) (p : List UInt8) (e : Ending) (w' : World) : Prop :=
  ∃ A n c, e = .returned (.tuple #[.slice A n c, .int .i64 ((Rtu.codeP p : Nat) : Int)]) ∧ (Rtu.bytes u p).length = n ∧ w'.ownsRow w.heap.size 5 1 (.slice A n c) n ((Rtu.bytes u p).map u8v) ∧ Below w.heap.size w w'
theorem BytesPost3.bad (w w' : World) (u : UInt8) (p : List UInt8) (k : Nat) (h : Rtu.codeP p = k) (hk : k ≠ 0) (hb : Below w.heap.size w w') : BytesPost3 w u p (.returned (.tuple #[.slice Option.none 0 0, .int .i64 (k : Int)])) w' :=
  have hc : Rtu.bytes u p = [] := Rtu.bytes_bad u p (by rw [h]; exact hk)
  ⟨Option.none, 0, 0, by rw [h], by rw [hc]; rfl, by rw [hc]; exact World.ownsRow_nil _ _ _ _, hb⟩
theorem BytesPost3.good (w w' : World) (u : UInt8) (p : List UInt8) (A : Option Addr) (n c : Nat) (h : Rtu.codeP p = 0) (hn : p.length + 3 = n) (hy : w'.ownsRow w.heap.size 5 1 (.slice A n c) n ((Crc.put (u :: p)).map u8v)) (hb : Below w.heap.size w w') :
    BytesPost3 w u p (.returned (.tuple #[.slice A n c, .int .i64 0])) w' :=
  have hc' := Rtu.bytes_good u p h
  ⟨A, n, c, by rw [h]; rfl, by rw [hc', Crc.put_length, List.length_cons]; omega, by rw [hc']; exact hy, hb⟩

def ReadPost3 (w : World) (b : List UInt8) (e : Ending) (w' : World) : Prop :=
  ∃ A n c, e = .returned (.tuple #[.agg #[u8v (Rtu.unit b), .slice A n c], .int .i64 ((Rtu.codeB b : Nat) : Int)]) ∧ (Rtu.pdu b).length = n ∧ n ≤ c ∧ c ≤ maxLen ∧ Lies u8v w' A (Rtu.pdu b) ∧ Below w.heap.size w w'
theorem ReadPost3.bad (w w' : World) (b : List UInt8) (k : Nat) (h : Rtu.codeB b = k) (hk : k ≠ 0) (hb : Below w.heap.size w w') : ReadPost3 w b (.returned (.tuple #[.agg #[.int .u8 0, .slice Option.none 0 0], .int .i64 (k : Int)])) w' :=
  have hc := Rtu.pdu_bad b (by rw [h]; exact hk)
  have hu := Rtu.unit_bad b (by rw [h]; exact hk)
  ⟨Option.none, 0, 0, by rw [h, hu]; rfl, by rw [hc]; rfl, zq _, Nat.zero_le _, by rw [hc]; exact Lies.nil _ _, hb⟩
theorem ReadPost3.good (w w' : World) (b : List UInt8) (x : UInt8) (A : Option Addr) (n c : Nat) (h : Rtu.codeB b = 0) (hx : b.getD 0 0 = x) (hn : b.length - 3 = n) (hc : n ≤ c) (hm : c ≤ maxLen) (hy : Lies u8v w' A ((Crc.front b).drop 1)) (hb : Below w.heap.size w w') :
    ReadPost3 w b (.returned (.tuple #[.agg #[u8v x, .slice A n c], .int .i64 0])) w' :=
  have hp : Rtu.pdu b = (Crc.front b).drop 1 := by unfold Rtu.pdu; rw [if_pos h]
  have hu : Rtu.unit b = x := by unfold Rtu.unit; rw [if_pos h]; exact hx
  ⟨A, n, c, by rw [h, hu]; rfl, by rw [hp, List.length_drop, Crc.front_length]; omega, hc, hm, by rw [hp]; exact hy, hb⟩

set_option maxRecDepth 100000 in
set_option maxHeartbeats 400000 in
theorem rbytes3_any (u : UInt8) (A : Option Addr) (n c : Nat) (p : List UInt8) (hn : p.length = n) (hm : n ≤ 60000) (w : World) (hb : Lies u8v w A p) :
    Calls Tryz.prog 31 #[.agg #[u8v u, .slice A n c]] w (BytesPost3 w u p) := by
  by_cases h0 : n = 0
  · have HC := qh (Rtu.codeP_none p (by omega))
    have h0' : ((n : Int) == 0) = true := by rw [beq_iff_eq]; omega
    clear hn hb h0
    go_enter Tryz.func31, Tryz.ntmps31
    go_wp2
    go_ret2
    exact BytesPost3.bad _ _ _ _ 3 HC.out (by omega) ((Below.refl _ _).alloc (zq _) _)
  · have h0' : ((n : Int) == 0) = false := by rw [beq_eq_false_iff_ne]; omega
    by_cases h1 : 253 < n
    · have HC := qh (Rtu.codeP_many p (by omega))
      have h1' : (253 : Int) < n := by omega
      clear hn hb h0 h1
      go_enter Tryz.func31, Tryz.ntmps31
      go_wp2
      go_ret2
      exact BytesPost3.bad _ _ _ _ 4 HC.out (by omega) ((Below.refl _ _).alloc (zq _) _)
    · have HC := qh (Rtu.codeP_good p (by omega) (by omega))
      have h1' : ¬ (253 : Int) < n := by omega
      have HN := qh hn
      clear hn h0
      go_enter Tryz.func31, Tryz.ntmps31
      go_wp2_with (first
        | (at_builtin; go_must (refine wpList_append_lies kit8 one8 _ rfl (.tmp 14) (.tmp 16) rfl w.heap.size _ 1 [u] rfl (own_lit u8v (w.alloc (.cells #[u8v u, .slice A n c] _)) #[u8v u] _ _ _ 1 [u] rfl rfl (by simp) (by simp) (by unfold maxLen; omega)) A n c p rfl HN.out ((hb.alloc _).alloc _) (by omega) (by unfold maxLen; omega) (by simp; omega) ?_; intro A2 c2 w2 hown2 _ hb2))
        | (go_at_call 58; refine (rput_own A2 (1 + n) c2 ([u] ++ p) (by rw [List.length_append, HN.out]; rfl) (by omega) _ (own_at hown2).2.2.2).mono ?_; rintro e w3 ⟨A3, c3, rfl, hown3, hbe3⟩))
      go_ret2
      exact BytesPost3.good _ _ _ _ A3 (1 + n + 2) c3 HC.out (by have := HN.out; omega) (own_lower hown3 (by have := hb2.size; simp at this; omega)) ((((Below.refl _ w).alloc (zq _) _).alloc (by simp) _).trans (hb2.trans (hbe3.mono (by have := hb2.size; simp at this; omega))))

set_option maxRecDepth 100000 in
set_option maxHeartbeats 400000 in
theorem rread3_any (A : Option Addr) (n c : Nat) (b : List UInt8) (hn : b.length = n) (hnc : n ≤ c) (hm : n ≤ 60000) (w : World) (hb : Lies u8v w A b) :
    Calls Tryz.prog 33 #[.slice A n c] w (ReadPost3 w b) := by
  by_cases h0 : n < 4
  · have HC := qh (Rtu.codeB_short b (by omega))
    clear hn hb
    go_enter Tryz.func33, Tryz.ntmps33
    go_wp2
    refine bodyPost_ret_by (v := .tuple #[.agg #[.int .u8 0, .slice none 0 0], .int .i64 3]) (by simp [results, Tryz.f33, go_sem]) rfl ?_
    exact ReadPost3.bad _ _ _ 3 HC.out (by omega) ((Below.refl _ _).alloc (zq _) _)
  · by_cases h1 : 256 < n
    · have HC := qh (Rtu.codeB_many b (by omega))
      clear hn hb
      go_enter Tryz.func33, Tryz.ntmps33
      go_wp2
      refine bodyPost_ret_by (v := .tuple #[.agg #[.int .u8 0, .slice none 0 0], .int .i64 4]) (by simp [results, Tryz.f33, go_sem]) rfl ?_
      exact ReadPost3.bad _ _ _ 4 HC.out (by omega) ((Below.refl _ _).alloc (zq _) _)
    · have HN := qh hn
      clear hn
      cases hp : Crc.isPut b with
      | false =>
        have HC := qh (Rtu.codeB_sum b (by have := HN.out; omega) (by have := HN.out; omega) hp)
        have HP := qh hp
        clear hp
        go_enter Tryz.func33, Tryz.ntmps33
        go_wp2_with fail
        refine (rcut_any A n c b HN.out hnc (by omega) _ (hb.alloc _)).mono ?_
        rintro e w2 ⟨A2, n2, c2, rfl, hn2, hnc2, hc2, hy2, hbe2⟩
        rw [HP.out]
        have hbw2 := ((Below.refl _ w).alloc (zq _) _).trans (hbe2.mono (by simp))
        have hrow : w2.heap[w.heap.size]? = some (.cells #[.int .u8 0, .slice none 0 0] 84 (0, 0)) := (hbe2.block _ (by simp)).trans (heap_alloc_new w _)
        obtain ⟨hr0, hr1, hf0, hf1⟩ := row_two hrow
        clear hrow
        go_wp2
        refine bodyPost_ret_by (v := .tuple #[.agg #[.int .u8 0, .slice none 0 0], .int .i64 6]) (by simp [results, Tryz.f33, go_sem, hr0, hr1]) rfl ?_
        exact ReadPost3.bad _ _ _ 6 HC.out (by omega) ((hbw2.setCell (p := ⟨w.heap.size, 0, none⟩) (zq _) _).setCell (p := ⟨w.heap.size, 1, none⟩) (zq _) _)
      | true =>
        have HC := qh (Rtu.codeB_good b (by have := HN.out; omega) (by have := HN.out; omega) hp)
        have HK : Hid (Crc.cut b = Crc.front b) := qh (by unfold Crc.cut; rw [hp, if_pos rfl])
        have HP := qh hp
        clear hp
        have hmx : Tryz.prog.follows .mixedOrders = true := by kernel_rfl
        go_enter Tryz.func33, Tryz.ntmps33
        go_wp2_with fail
        refine (rcut_any A n c b HN.out hnc (by omega) _ (hb.alloc _)).mono ?_
        rintro e w2 ⟨A2, n2, c2, rfl, hn2, hnc2, hc2, hy2, hbe2⟩
        rw [HP.out]
        rw [HK.out] at hn2 hy2
        have hbw2 := ((Below.refl _ w).alloc (zq _) _).trans (hbe2.mono (by simp))
        have hrow : w2.heap[w.heap.size]? = some (.cells #[.int .u8 0, .slice none 0 0] 84 (0, 0)) := (hbe2.block _ (by simp)).trans (heap_alloc_new w _)
        obtain ⟨hr0, hr1, hf0, hf1⟩ := row_two hrow
        obtain ⟨m, rfl⟩ : ∃ m, n2 = m + 1 := ⟨n2 - 1, by rw [Crc.front_length] at hn2; have := HN.out; omega⟩
        obtain ⟨b1, o1, rfl, hb1, hc1⟩ := hy2.at_ (by omega)
        obtain ⟨x, hx1, hx⟩ : ∃ x, (Crc.front b)[0]? = some x ∧ w2.cell? ⟨b1, o1, none⟩ = some (.int .u8 (x.toNat : Int)) := ⟨_, List.getElem?_eq_getElem (by omega), hc1 0 (by omega)⟩
        have HX : Hid (b.getD 0 0 = x) := qh (by
          unfold Crc.front at hx1
          rw [List.getElem?_take, if_pos (by have := HN.out; omega)] at hx1
          rw [List.getD_eq_getElem?_getD, hx1]; rfl)
        have HD := qh (hy2.drop 1)
        have HN2 := qh hn2
        have hm1 : 1 ≤ m := by rw [Crc.front_length] at hn2; have := HN.out; omega
        have hm2 : m ≤ 256 := by rw [Crc.front_length] at hn2; have := HN.out; omega
        have hc21 : ¬ c2 = 1 := by omega
        have hne : b1 ≠ w.heap.size := by
          rintro rfl
          have h0 := hc1 0 (by omega)
          have h1 := hc1 1 (by omega)
          rw [cell_of_row w2 _ _ _ _ _ hrow] at h0 h1
          rcases o1 with _ | _ | o
          · simp at h1
          · simp at h0
          · simp at h0
        clear hc1 hn2 hx1 hrow
        go_wp2
        go_region
        all_goals go_wp2
        all_goals
          refine bodyPost_ret_by (v := .tuple #[.agg #[.int .u8 (x.toNat : Int), .slice (some ⟨b1, o1 + 1, none⟩) m (c2 - 1)], .int .i64 0]) (by simp [results, Tryz.f33, go_sem, hr0, hr1]) rfl ?_
          refine ReadPost3.good _ _ _ x _ m (c2 - 1) HC.out HX.out (by have := HN2.out; rw [Crc.front_length] at this; omega) (by omega) (by omega) ?_ (drewN_below ((hbw2.setCell (p := ⟨w.heap.size, 0, none⟩) (zq _) _).setCell (p := ⟨w.heap.size, 1, none⟩) (zq _) _) 1)
          exact (HD.out.setCell_far (g := w.heap.size) hne 0 _).setCell_far hne 1 _

end Go.Proofs.YtlgmjnjhdamknaaGreat

namespace Go.Proofs.YtlgmjnjhdamknaaGreat
open Go.RowKit

namespace Crc
theorem front_put_eq (l : List UInt8) : front (put l) = l := by
  unfold front
  rw [put_length, Nat.add_sub_cancel]
  unfold put
  rw [List.take_left]
theorem isPut_put (l : List UInt8) : isPut (put l) = true := by
  rw [isPut_long _ (by rw [put_length]; omega), front_put_eq]
  simp
end Crc
namespace Rtu
theorem codeP_zero {p : List UInt8} (h : codeP p = 0) : 0 < p.length ∧ p.length ≤ 253 := by
  unfold codeP at h
  split at h
  · omega
  · split at h <;> omega
theorem bytes_length {u : UInt8} {p : List UInt8} (h : codeP p = 0) : (bytes u p).length = p.length + 3 := by
  rw [bytes_good u p h, Crc.put_length, List.length_cons]
theorem there {u : UInt8} {p : List UInt8} (h : codeP p = 0) : codeB (bytes u p) = 0 := by
  have h2 := codeP_zero h
  have h3 := bytes_length (u := u) h
  exact codeB_good _ (by omega) (by omega) (by rw [bytes_good u p h]; exact Crc.isPut_put _)
theorem there_unit {u : UInt8} {p : List UInt8} (h : codeP p = 0) : unit (bytes u p) = u := by
  unfold unit
  rw [if_pos (there h), bytes_good u p h]
  rfl
theorem there_pdu {u : UInt8} {p : List UInt8} (h : codeP p = 0) : pdu (bytes u p) = p := by
  unfold pdu
  rw [if_pos (there h), bytes_good u p h, Crc.front_put_eq]
  rfl
end Rtu
end Go.Proofs.YtlgmjnjhdamknaaGreat

namespace Go.Proofs.YtlgmjnjhdamknaaGreat
open Go.RowKit

namespace An
def b1 (n : Nat) : UInt8 := UInt8.ofNat n
def laid : Nat → List ByteArray → List UInt8
  | _, [] => []
  | i, s :: r => b1 i :: b1 s.size :: (s.data.toList ++ laid (i + 1) r)
def text (a : Ask) (x : Ans) : List UInt8 :=
  if 0 < x.exc then [b1 (128 + a.code.toNat), b1 x.exc.toNat]
  else if a.code = 1 ∨ a.code = 2 then b1 a.code.toNat :: b1 (Word.pack x.bits).length :: Word.pack x.bits
  else if a.code = 3 ∨ a.code = 4 ∨ a.code = 23 then b1 a.code.toNat :: b1 (Word.bytes x.words).length :: Word.bytes x.words
  else if a.code = 5 ∨ a.code = 6 ∨ a.code = 22 then Ak.bytes a
  else if a.code = 15 ∨ a.code = 16 then (Ak.bytes a).take 5
  else [43, 14, b1 a.count.toNat, 1, 0, 0, b1 x.texts.length] ++ laid a.addr.toNat x.texts
def bytes (a : Ask) (x : Ans) : List UInt8 := if right a x then text a x else []
def codeA (a : Ask) (x : Ans) : Nat := if Ak.right a then (if right a x then 0 else 2) else 1
def cutF : Nat → List UInt8 → List ByteArray
  | 0, _ => []
  | _ + 1, [] => []
  | _ + 1, [_] => []
  | f + 1, _ :: n :: r => if r.length < n.toNat then [] else ⟨(r.take n.toNat).toArray⟩ :: cutF f (r.drop n.toNat)
def cut (l : List UInt8) : List ByteArray := cutF l.length l
def guess (a : Ask) (b : List UInt8) : Ans :=
  if b.length = 2 ∧ ((b.getD 0 0).toNat : Int) = 128 + a.code then { zero with exc := (b.getD 1 0).toNat }
  else if a.code = 1 ∨ a.code = 2 then { zero with bits := Word.bitsOf (b.drop 2) (min a.count.toNat (8 * (b.drop 2).length)) }
  else if a.code = 3 ∨ a.code = 4 ∨ a.code = 23 then { zero with words := Word.ansWords (b.drop 2) }
  else if a.code = 43 then { zero with texts := cut (b.drop 7) }
  else zero
def read (a : Ask) (b : List UInt8) : Ans × Nat :=
  if Ak.right a = false then (zero, 1) else if right a (guess a b) = false ∨ text a (guess a b) ≠ b then (zero, 2) else (guess a b, 0)

inductive Shape : Ask → Ans → Prop
  | exc (a : Ask) (n : Int) (h0 : 1 ≤ n) (h1 : n ≤ 255) : Shape a ⟨n, [], [], []⟩
  | bits (a : Ask) (l : List Bool) (hc : a.code = 1 ∨ a.code = 2) (hl : (l.length : Int) = a.count) (h1 : l.length ≤ 2000) : Shape a ⟨0, l, [], []⟩
  | words (a : Ask) (l : List UInt16) (hc : a.code = 3 ∨ a.code = 4 ∨ a.code = 23) (hl : (l.length : Int) = a.count) (h1 : l.length ≤ 125) : Shape a ⟨0, [], l, []⟩
  | back (a : Ask) (hc : a.code = 5 ∨ a.code = 6 ∨ a.code = 22 ∨ a.code = 15 ∨ a.code = 16) : Shape a ⟨0, [], [], []⟩
  | texts (a : Ask) (l : List ByteArray) (hc : a.code = 43) (h0 : 0 < l.length) (hs : ∀ s ∈ l, s.size ≤ 245) (h1 : long l ≤ 253) (h2 : a.addr + l.length ≤ 256) : Shape a ⟨0, [], [], l⟩

theorem longF_le (l : List ByteArray) : ∀ n, n ≤ longF n l := by
  induction l with
  | nil => intro n; exact zq _
  | cons s r ih =>
    intro n
    show n ≤ if n < 1000 then longF (n + 2 + s.size) r else n
    split
    · have := ih (n + 2 + s.size)
      omega
    · exact zq _
theorem laid_length (l : List ByteArray) : ∀ i n, longF n l ≤ 253 → n + (laid i l).length = longF n l := by
  induction l with
  | nil => intro i n _; rfl
  | cons s r ih =>
    intro i n h
    have h0 := longF_le (s :: r) n
    have hn : n < 1000 := by omega
    rw [longF_cons n s r hn] at h ⊢
    have := ih (i + 1) (n + 2 + s.size) h
    have hs : s.data.toList.length = s.size := Array.length_toList
    show n + (b1 i :: b1 s.size :: (s.data.toList ++ laid (i + 1) r)).length = _
    rw [List.length_cons, List.length_cons, List.length_append, hs]
    omega
theorem b1_toNat (n : Nat) (h : n < 256) : (b1 n).toNat = n := by unfold b1; rw [UInt8.toNat_ofNat']; omega
theorem cut_laid (l : List ByteArray) : ∀ i f, (∀ s ∈ l, s.size ≤ 245) → (laid i l).length ≤ f → cutF f (laid i l) = l := by
  induction l with
  | nil =>
    intro i f _ _
    cases f <;> rfl
  | cons s r ih =>
    intro i f hs hf
    have hsz : s.data.toList.length = s.size := Array.length_toList
    have h1 := hs s (by simp)
    have e : laid i (s :: r) = b1 i :: b1 s.size :: (s.data.toList ++ laid (i + 1) r) := rfl
    rw [e, List.length_cons, List.length_cons, List.length_append, hsz] at hf
    rw [e]
    obtain ⟨f, rfl⟩ : ∃ f', f = f' + 1 := ⟨f - 1, by omega⟩
    show (if (s.data.toList ++ laid (i + 1) r).length < (b1 s.size).toNat then [] else (⟨((s.data.toList ++ laid (i + 1) r).take (b1 s.size).toNat).toArray⟩ : ByteArray) :: cutF f ((s.data.toList ++ laid (i + 1) r).drop (b1 s.size).toNat)) = s :: r
    rw [b1_toNat _ (by omega), if_neg (by rw [List.length_append, hsz]; omega), ← hsz, List.take_left, List.drop_left, ih (i + 1) f (fun t ht => hs t (by simp [ht])) (by omega)]
theorem right_parts {a : Ask} {x : Ans} (h : right a x = true) : Ak.right a = true ∧ 0 ≤ x.exc ∧ x.exc ≤ 255 ∧ (x.bits.length : Int) = wantBits a x ∧ (x.words.length : Int) = wantWords a x ∧ (decide (0 < x.texts.length) = wantTexts a x) ∧ shortTexts x.texts = true ∧ (wantTexts a x = true → long x.texts ≤ 253 ∧ a.addr + x.texts.length ≤ 256) := by
  unfold right at h
  simp only [Bool.and_eq_true, decide_eq_true_eq, beq_iff_eq, Bool.or_eq_true, Bool.not_eq_true'] at h
  obtain ⟨⟨⟨⟨⟨⟨⟨h1, h2⟩, h3⟩, h4⟩, h5⟩, h6⟩, h7⟩, h8⟩ := h
  refine ⟨h1, h2, h3, h4, h5, h6, h7, fun hw => ?_⟩
  rcases h8 with h8 | h8
  · rw [hw] at h8; cases h8
  · exact h8
theorem short_all {l : List ByteArray} (h : shortTexts l = true) (hl : l.length ≤ 300) : ∀ s ∈ l, s.size ≤ 245 := by
  unfold shortTexts at h
  rw [List.take_of_length_le hl, List.all_eq_true] at h
  intro s hs
  simpa using h s hs
theorem ak_right {a : Ask} (h : Ak.right a = true) : Ak.formed a = true ∧ Ak.bytes a = Ak.text a := by
  unfold Ak.bytes
  rw [h]
  unfold Ak.right at h
  rw [Bool.and_eq_true] at h
  exact ⟨h.1, rfl⟩
theorem shape {a : Ask} {x : Ans} (h : right a x = true) : Shape a x := by
  obtain ⟨h1, h2, h3, h4, h5, h6, h7, h8⟩ := right_parts h
  obtain ⟨exc, bits, words, texts⟩ := x
  simp only at *
  have hsh := Ak.shape (ak_right h1).1
  have hfit := (Ak.formed_parts (ak_right h1).1).2.1
  by_cases he : exc = 0
  · subst he
    have hT : ∀ c : Int, a.code = c → c ≠ 43 → texts = [] := fun c hc h43 => by
      unfold wantTexts at h6
      have e : (a.code == 43) = false := beq_eq_false_iff_ne.2 (by omega)
      rw [e, Bool.and_false, decide_eq_false_iff_not] at h6
      exact List.eq_nil_of_length_eq_zero (by omega)
    have hB : ∀ c : Int, a.code = c → 2 < c → bits = [] := fun c hc h2c => by
      unfold wantBits at h4
      rw [if_neg (by omega)] at h4
      exact List.eq_nil_of_length_eq_zero (by omega)
    have hW : ∀ c : Int, a.code = c → c ≠ 3 → c ≠ 4 → c ≠ 23 → words = [] := fun c hc n1 n2 n3 => by
      unfold wantWords at h5
      rw [if_neg (by omega)] at h5
      exact List.eq_nil_of_length_eq_zero (by omega)
    unfold wantBits at h4
    unfold wantWords at h5
    cases hsh with
    | count c addr n hc h0 h1' n0 n1 =>
      obtain rfl := hT c rfl (by omega)
      rcases hc with rfl | rfl | rfl | rfl
      · obtain rfl := hW 1 rfl (by omega) (by omega) (by omega)
        exact .bits _ bits (.inl rfl) (by simpa using h4) (by have : (bits.length : Int) = n := by simpa using h4
                                                              omega)
      · obtain rfl := hW 2 rfl (by omega) (by omega) (by omega)
        exact .bits _ bits (.inr rfl) (by simpa using h4) (by have : (bits.length : Int) = n := by simpa using h4
                                                              omega)
      · obtain rfl := hB 3 rfl (by omega)
        have hn : (words.length : Int) = n := by simpa using h5
        have hm := Ak.fits_most (m := 125) hfit (by omega)
        exact .words _ words (.inl rfl) hn (by dsimp only at hm; omega)
      · obtain rfl := hB 4 rfl (by omega)
        have hn : (words.length : Int) = n := by simpa using h5
        have hm := Ak.fits_most (m := 125) hfit (by omega)
        exact .words _ words (.inr (.inl rfl)) hn (by dsimp only at hm; omega)
    | five addr b h0 h1' =>
      obtain rfl := hT 5 rfl (by omega)
      obtain rfl := hB 5 rfl (by omega)
      obtain rfl := hW 5 rfl (by omega) (by omega) (by omega)
      exact .back _ (.inl rfl)
    | six addr v h0 h1' =>
      obtain rfl := hT 6 rfl (by omega)
      obtain rfl := hB 6 rfl (by omega)
      obtain rfl := hW 6 rfl (by omega) (by omega) (by omega)
      exact .back _ (.inr (.inl rfl))
    | bits addr l h0 h1' l0 l1 =>
      obtain rfl := hT 15 rfl (by omega)
      obtain rfl := hB 15 rfl (by omega)
      obtain rfl := hW 15 rfl (by omega) (by omega) (by omega)
      exact .back _ (.inr (.inr (.inr (.inl rfl))))
    | words addr l h0 h1' l0 l1 =>
      obtain rfl := hT 16 rfl (by omega)
      obtain rfl := hB 16 rfl (by omega)
      obtain rfl := hW 16 rfl (by omega) (by omega) (by omega)
      exact .back _ (.inr (.inr (.inr (.inr rfl))))
    | mask addr v y h0 h1' =>
      obtain rfl := hT 22 rfl (by omega)
      obtain rfl := hB 22 rfl (by omega)
      obtain rfl := hW 22 rfl (by omega) (by omega) (by omega)
      exact .back _ (.inr (.inr (.inl rfl)))
    | both addr n to l h0 h1' n0 n1 t0 t1 l0 l1 =>
      obtain rfl := hT 23 rfl (by omega)
      obtain rfl := hB 23 rfl (by omega)
      have hn : (words.length : Int) = n := by simpa using h5
      exact .words _ words (.inr (.inr rfl)) hn (by omega)
    | ident addr n h0 h1' n0 n1 =>
      obtain rfl := hB 43 rfl (by omega)
      obtain rfl := hW 43 rfl (by omega) (by omega) (by omega)
      have hw : wantTexts ⟨43, addr, n, 0, [], [], 0, 0⟩ ⟨0, [], [], texts⟩ = true := rfl
      rw [hw, decide_eq_true_eq] at h6
      obtain ⟨g1, g2⟩ := h8 hw
      have hln : texts.length ≤ 256 := by dsimp only at g2; omega
      exact .texts _ texts rfl h6 (short_all h7 (by omega)) g1 g2
  · have hT : texts = [] := by
      unfold wantTexts at h6
      have e : (exc == 0) = false := beq_eq_false_iff_ne.2 he
      rw [e, Bool.false_and, decide_eq_false_iff_not] at h6
      exact List.eq_nil_of_length_eq_zero (by omega)
    have hB : bits = [] := by
      unfold wantBits at h4
      rw [if_neg (by simp only; omega)] at h4
      exact List.eq_nil_of_length_eq_zero (by omega)
    have hW : words = [] := by
      unfold wantWords at h5
      rw [if_neg (by simp only; omega)] at h5
      exact List.eq_nil_of_length_eq_zero (by omega)
    subst hT hB hW
    exact .exc a exc (by omega) h3

theorem code_lt {a : Ask} (h : Ak.formed a = true) : 1 ≤ a.code ∧ a.code ≤ 43 := by
  have hc := (Ak.formed_parts h).1
  simp only [Ak.codes, List.mem_cons, List.not_mem_nil, or_false] at hc
  omega
theorem text_back_len {a : Ask} (h : Ak.right a = true) (hc : a.code = 5 ∨ a.code = 6 ∨ a.code = 22 ∨ a.code = 15 ∨ a.code = 16) : 5 ≤ (Ak.text a).length := by
  cases Ak.shape (ak_right h).1 with
  | count c addr n hc' h0 h1 n0 n1 => dsimp only at hc; omega
  | five addr b h0 h1 => rw [Ak.text_five]; simp
  | six addr x h0 h1 => rw [Ak.text_six]; simp
  | bits addr l h0 h1 l0 l1 => rw [Ak.text_bits]; simp
  | words addr l h0 h1 l0 l1 => rw [Ak.text_words]; simp
  | mask addr x y h0 h1 => rw [Ak.text_mask]; simp
  | both addr n to l h0 h1 n0 n1 t0 t1 l0 l1 => dsimp only at hc; omega
  | ident addr n h0 h1 n0 n1 => dsimp only at hc; omega
theorem guess_text {a : Ask} {x : Ans} (h : Ak.right a = true) (hs : Shape a x) : guess a (text a x) = x ∧ 2 ≤ (text a x).length ∧ (text a x).length ≤ 253 := by
  obtain ⟨hc0, hc1⟩ := code_lt (ak_right h).1
  cases hs with
  | exc n h0 h1 =>
    have e : text a ⟨n, [], [], []⟩ = [b1 (128 + a.code.toNat), b1 n.toNat] := by unfold text; rw [if_pos (by dsimp only; omega)]
    rw [e]
    refine ⟨?_, by simp, by simp⟩
    unfold guess
    have e1 : (((b1 (128 + a.code.toNat)).toNat : Nat) : Int) = 128 + a.code := by rw [b1_toNat _ (by omega)]; omega
    rw [if_pos ⟨rfl, e1⟩]
    show Ans.mk (((b1 n.toNat).toNat : Nat) : Int) [] [] [] = _
    rw [b1_toNat _ (by omega), Int.toNat_of_nonneg (by omega)]
  | bits l hc hl h1 =>
    have e : text a ⟨0, l, [], []⟩ = b1 a.code.toNat :: b1 (Word.pack l).length :: Word.pack l := by unfold text; rw [if_neg (by dsimp only; omega), if_pos hc]
    have hp := Word.pack_length l
    rw [e]
    refine ⟨?_, by simp, by simp only [List.length_cons]; omega⟩
    have e1 : (((b1 a.code.toNat).toNat : Nat) : Int) = a.code := by rw [b1_toNat _ (by omega)]; omega
    unfold guess
    rw [if_neg (by rintro ⟨_, g⟩; simp only [List.getD_cons_zero] at g; omega), if_pos hc]
    simp only [List.drop_succ_cons, List.drop_zero]
    have hm : min a.count.toNat (8 * (Word.pack l).length) = l.length := by omega
    rw [hm, Word.bitsOf_pack]
    rfl
  | words l hc hl h1 =>
    have e : text a ⟨0, [], l, []⟩ = b1 a.code.toNat :: b1 (Word.bytes l).length :: Word.bytes l := by unfold text; rw [if_neg (by dsimp only; omega), if_neg (by omega), if_pos hc]
    have hp := Word.bytes_length l
    rw [e]
    refine ⟨?_, by simp, by simp only [List.length_cons]; omega⟩
    have e1 : (((b1 a.code.toNat).toNat : Nat) : Int) = a.code := by rw [b1_toNat _ (by omega)]; omega
    unfold guess
    rw [if_neg (by rintro ⟨_, g⟩; simp only [List.getD_cons_zero] at g; omega), if_neg (by omega), if_pos hc]
    simp only [List.drop_succ_cons, List.drop_zero]
    rw [Word.ans_bytes]
    rfl
  | back hc =>
    have hl := text_back_len h hc
    have hm := (Ak.text_span (Ak.shape (ak_right h).1)).2.2
    have hz : ∀ b : List UInt8, 5 ≤ b.length → guess a b = ⟨0, [], [], []⟩ := fun b hb => by
      unfold guess
      rw [if_neg (by omega), if_neg (by omega), if_neg (by omega), if_neg (by omega)]
      rfl
    by_cases h2 : a.code = 5 ∨ a.code = 6 ∨ a.code = 22
    · have e : text a ⟨0, [], [], []⟩ = Ak.text a := by unfold text; rw [if_neg (by dsimp only; omega), if_neg (by omega), if_neg (by omega), if_pos h2, (ak_right h).2]
      rw [e]
      exact ⟨hz _ hl, by omega, by omega⟩
    · have e : text a ⟨0, [], [], []⟩ = (Ak.text a).take 5 := by unfold text; rw [if_neg (by dsimp only; omega), if_neg (by omega), if_neg (by omega), if_neg h2, if_pos (by omega), (ak_right h).2]
      rw [e]
      have hl5 : ((Ak.text a).take 5).length = 5 := by rw [List.length_take]; omega
      exact ⟨hz _ (by omega), by omega, by omega⟩
  | texts l hc h0 hs h1 h2 =>
    have e : text a ⟨0, [], [], l⟩ = [43, 14, b1 a.count.toNat, 1, 0, 0, b1 l.length] ++ laid a.addr.toNat l := by unfold text; rw [if_neg (by dsimp only; omega), if_neg (by omega), if_neg (by omega), if_neg (by omega), if_neg (by omega)]
    have hll := laid_length l a.addr.toNat 7 h1
    have hl2 : 2 ≤ (laid a.addr.toNat l).length := by
      cases l with
      | nil => simp at h0
      | cons s r => show 2 ≤ (b1 a.addr.toNat :: b1 s.size :: (s.data.toList ++ laid (a.addr.toNat + 1) r)).length; simp
    have hlong : longF 7 l = long l := rfl
    rw [e]
    refine ⟨?_, by simp, by simp only [List.length_append, List.length_cons, List.length_nil]; omega⟩
    unfold guess
    rw [if_neg (by simp only [List.length_append, List.length_cons, List.length_nil]; omega), if_neg (by omega), if_neg (by omega), if_pos hc]
    show Ans.mk 0 [] [] (cut (laid a.addr.toNat l)) = _
    unfold cut
    rw [cut_laid l _ _ hs (zq _)]
theorem read_text {a : Ask} {x : Ans} (h : right a x = true) : read a (text a x) = (x, 0) := by
  have h1 := (right_parts h).1
  have hg := (guess_text h1 (shape h)).1
  unfold read
  rw [if_neg (by rw [h1]; simp), hg, if_neg (by rw [h]; simp)]
theorem read_back (a : Ask) (b : List UInt8) : ((read a b).2 = 0 ∧ right a (read a b).1 = true ∧ text a (read a b).1 = b) ∨ ((read a b).2 ≠ 0 ∧ (read a b).1 = zero) := by
  unfold read
  split
  · exact .inr ⟨by decide, rfl⟩
  · split
    · exact .inr ⟨by decide, rfl⟩
    · next h1 h2 =>
      refine .inl ⟨rfl, ?_, ?_⟩
      · exact by simpa using fun h => h2 (.inl h)
      · exact Decidable.of_not_not fun h => h2 (.inr h)
end An
end Go.Proofs.YtlgmjnjhdamknaaGreat
