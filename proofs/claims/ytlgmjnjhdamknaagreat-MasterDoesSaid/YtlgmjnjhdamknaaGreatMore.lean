
/- A part of the proof of the law MasterDoes. -/
import Derived.Test.YtlgmjnjhdamknaaGreatMem
import Derived.Test.YtlgmjnjhdamknaaGreatAn
import Derived.Deep.DeepMust
namespace Go.Proofs.YtlgmjnjhdamknaaGreat
open Go.RowKit

set_option maxRecDepth 100000 in
set_option maxHeartbeats 400000 in
theorem more_any (vs : Value) (s : Nat) (hv : vs = .int .u16 (s : Nat)) (hs : s < 65536) (A : Option Addr) (n c : Nat) (l : List UInt8) (hn : l.length = n) (hm : n ≤ maxLen) (w : World) (hb : Lies u8v w A l) :
    Calls Tryz.prog 139 #[vs, .slice A n c] w fun e w' => e = .returned (.int .u16 (Crc.more s l : Nat)) ∧ w = w' := by
  subst hv
  subst hn
  unfold maxLen at hm
  go_enter Tryz.func139, Tryz.ntmps139
  go_wp2
  have HL : Hid (∀ k, Crc.more s (l.take k) < 65536) := qh fun k => Crc.more_lt _ hs
  go_loop [0, 9] (fun t i => ∃ k : Nat, k ≤ l.length ∧ i = .int .i64 k ∧ t = .int .u16 (Crc.more s (l.take k) : Nat)) (fun _ i => l.length - (intOf i).toNat)
  case atStart => exact ⟨0, Nat.zero_le _, rfl, rfl⟩
  case round =>
    obtain ⟨k, hk, rfl, rfl⟩ := hrel
    have hm := HL.out k
    clear HL
    by_cases hlt : k < l.length
    · obtain ⟨b, off, rfl, hc⟩ := hb k hlt
      unfold u8v at hc
      have HT := qh (Crc.more_take s l k hlt)
      have hx := (l[k]).toNat_lt
      generalize l[k] = x at hc HT hx
      generalize Crc.more s (l.take k) = m at hm HT
      go_wp2_with (go_at_call 166; refine (step_any _ _ hm hx _).mono ?_; rintro e w' ⟨rfl, rfl⟩)
      go_round
      case rel => exact ⟨k + 1, by omega, by go_num, by rw [HT.out]⟩
      case measure => simp [intOf]; omega
    · obtain rfl : k = l.length := by omega
      go_wp2
      go_ret
      exact ⟨rfl, rfl⟩

set_option maxRecDepth 100000 in
set_option maxHeartbeats 400000 in
theorem rmore_any (vs : Value) (s : Nat) (hv : vs = .int .u16 (s : Nat)) (hs : s < 65536) (A : Option Addr) (n c : Nat) (l : List UInt8) (hn : l.length = n) (hm : n ≤ maxLen) (w : World) (hb : Lies u8v w A l) :
    Calls Tryz.prog 146 #[vs, .slice A n c] w fun e w' => e = .returned (.int .u16 (Crc.more s l : Nat)) ∧ ∃ n, w' = w.drewN n := by
  subst hv
  subst hn
  unfold maxLen at hm
  go_enter Tryz.func146, Tryz.ntmps146
  go_wp2
  have HL : Hid (∀ k, Crc.more s (l.take k) < 65536) := qh fun k => Crc.more_lt _ hs
  go_loopw [0, 5] (fun t i wr => ∃ k : Nat, k ≤ l.length ∧ i = .int .i64 k ∧ t = .int .u16 (Crc.more s (l.take k) : Nat) ∧ ∃ n, wr = w.drewN n) (fun _ i _ => l.length - (intOf i).toNat)
  case atStart => exact ⟨0, Nat.zero_le _, rfl, rfl, 0, rfl⟩
  case round =>
    obtain ⟨k, hk, rfl, rfl, q, rfl⟩ := hrel
    have hm := HL.out k
    clear HL
    by_cases hlt : k < l.length
    · obtain ⟨b, off, rfl, hc⟩ := hb k hlt
      unfold u8v at hc
      have HT := qh (Crc.more_take s l k hlt)
      have hx := (l[k]).toNat_lt
      generalize l[k] = x at hc HT hx
      generalize Crc.more s (l.take k) = m at hm HT
      go_wp2_with (go_at_call 170; refine (rstep_any _ _ hm hx _).mono ?_; rintro e w' ⟨rfl, q2, rfl⟩)
      go_roundw
      case rel => exact ⟨k + 1, by omega, by go_num, by rw [HT.out], _, rfl⟩
      case measure => simp [intOf]; omega
    · obtain rfl : k = l.length := by omega
      go_wp2
      go_ret
      exact ⟨by rw [List.take_length]; rfl, q, rfl⟩

theorem sum_any (A : Option Addr) (n c : Nat) (l : List UInt8) (hn : l.length = n) (hm : n ≤ maxLen) (w : World) (hb : Lies u8v w A l) :
    Calls Tryz.prog 94 #[.slice A n c] w fun e w' => e = .returned (.int .u16 (Crc.more 65535 l : Nat)) ∧ w = w' := by
  have HN := qh hn
  clear hn
  go_enter Tryz.func94, Tryz.ntmps94
  go_wp2_with (go_at_call 139; refine (more_any _ 65535 rfl (by omega) A n c l HN.out hm _ hb).mono ?_; rintro e w' ⟨rfl, rfl⟩)
  go_ret
  exact ⟨rfl, rfl⟩

theorem rsum_any (A : Option Addr) (n c : Nat) (l : List UInt8) (hn : l.length = n) (hm : n ≤ maxLen) (w : World) (hb : Lies u8v w A l) :
    Calls Tryz.prog 104 #[.slice A n c] w fun e w' => e = .returned (.int .u16 (Crc.more 65535 l : Nat)) ∧ ∃ n, w' = w.drewN n := by
  have HN := qh hn
  clear hn
  go_enter Tryz.func104, Tryz.ntmps104
  go_wp2_with (go_at_call 146; refine (rmore_any _ 65535 rfl (by omega) A n c l HN.out hm _ hb).mono ?_; rintro e w' ⟨rfl, q, rfl⟩)
  go_ret
  exact ⟨rfl, q, rfl⟩
end Go.Proofs.YtlgmjnjhdamknaaGreat

namespace Go.Proofs.YtlgmjnjhdamknaaGreat
open Go.RowKit

namespace Crc
def tail (s : Nat) : List UInt8 := [UInt8.ofNat (s % 256), UInt8.ofNat (s / 256)]
def put (l : List UInt8) : List UInt8 := l ++ tail (more 65535 l)
theorem put_length (l : List UInt8) : (put l).length = l.length + 2 := by simp [put, tail]
end Crc
theorem tail_map (s : Nat) (h : s < 65536) : (Crc.tail s).map u8v = [.int .u8 ((s % 256 : Nat) : Int), .int .u8 ((s / 256 : Nat) : Int)] := by
  have e2 : s / 256 % 256 = s / 256 := Nat.mod_eq_of_lt (by omega)
  simp [Crc.tail, u8v, e2]

set_option maxRecDepth 100000 in
set_option maxHeartbeats 400000 in
theorem put_own (A : Option Addr) (n c : Nat) (l : List UInt8) (hn : l.length = n) (hm : n ≤ 65536) (w : World) (hb : Lies u8v w A l) :
    Calls Tryz.prog 46 #[.slice A n c] w fun e w' => ∃ A' c', e = .returned (.slice A' (n + 2) c') ∧ w'.ownsRow w.heap.size 5 1 (.slice A' (n + 2) c') (n + 2) ((Crc.put l).map u8v) ∧ Below w.heap.size w w' := by
  have hs := Crc.more_lt l (show 65535 < 65536 by omega)
  have HP : Hid (Crc.put l = l ++ Crc.tail (Crc.more 65535 l)) := qh rfl
  obtain ⟨i0, hi0, hz0, hz1, hz2⟩ := info_parts kit8.hi
  have HN := qh hn
  clear hn
  go_enter Tryz.func46, Tryz.ntmps46
  go_wp2_with (first
    | (go_at_call 94; refine (sum_any A n c l HN.out (by unfold maxLen; omega) _ hb).mono ?_; rintro e w' ⟨rfl, rfl⟩; generalize Crc.more 65535 l = m at hs HP)
    | (at_make; go_must (refine wpList_make_own _ rfl _ _ 41 rfl w.heap.size 5 i0 (.int .u8 0) 1 kit8.ht hi0 hz0 hz1 .i64 .i64 _ (n + 2) rfl rfl (by omega) (by rw [hz2]; omega) (by unfold maxLen; omega) (zq _) ?_); intro w1 hown1 hg1; have hb1 : Below w.heap.size w w1 := (Below.refl _ _).grown hg1 (zq _) (by simp))
    | (at_builtin; refine wpList_append_lies kit8 one8 _ rfl (.tmp 11) (.tmp 12) rfl w.heap.size _ 0 [] rfl hown1 A n c l rfl HN.out (hb.below hb1 (zq _)) (by omega) (by unfold maxLen; omega) hb1.size ?_; intro A2 c2 w2 hown2 _ hb2; simp only [Nat.zero_add, List.nil_append] at hown2; have hbb2 := hb1.trans hb2; have hz := hbb2.size; have HBV := qh (tail_map m hs))
    | (at_builtin; go_must (refine wpList_append_lies kit8 one8 _ rfl (.tmp 14) (.tmp 20) rfl w.heap.size _ n l rfl (hown2.alloc _) (some ⟨w2.heap.size, 0, none⟩) 2 2 (Crc.tail m) rfl rfl (lies_new (f := u8v) _ _ _ _ (by rw [HBV.out]; rfl)) (by omega) (by unfold maxLen; omega) (by simp; omega) ?_; intro A3 c3 w3 hown3 _ hb3)))
  go_ret
  exact ⟨A3, c3, rfl, by rw [HP.out]; exact hown3, hbb2.trans (((Below.refl _ _).alloc hz _).trans hb3)⟩
theorem put3_any (A : Option Addr) (n c : Nat) (l : List UInt8) (hn : l.length = n) (hm : n ≤ 65536) (w : World) (hb : Lies u8v w A l) :
    Calls Tryz.prog 46 #[.slice A n c] w fun e w' => ∃ A' c', e = .returned (.slice A' (n + 2) c') ∧ n + 2 ≤ c' ∧ c' ≤ maxLen ∧ Lies u8v w' A' (Crc.put l) ∧ Below w.heap.size w w' := by
  refine (put_own A n c l hn hm w hb).mono ?_
  rintro e w' ⟨A', c', rfl, hown, hbe⟩
  obtain ⟨h5, h6, _, h7⟩ := own_at hown
  exact ⟨A', c', rfl, h5, h6, h7, hbe⟩

set_option maxRecDepth 100000 in
set_option maxHeartbeats 400000 in
theorem rput_own (A : Option Addr) (n c : Nat) (l : List UInt8) (hn : l.length = n) (hm : n ≤ 65536) (w : World) (hb : Lies u8v w A l) :
    Calls Tryz.prog 58 #[.slice A n c] w fun e w' => ∃ A' c', e = .returned (.slice A' (n + 2) c') ∧ w'.ownsRow w.heap.size 5 1 (.slice A' (n + 2) c') (n + 2) ((Crc.put l).map u8v) ∧ Below w.heap.size w w' := by
  have hs := Crc.more_lt l (show 65535 < 65536 by omega)
  have HP : Hid (Crc.put l = l ++ Crc.tail (Crc.more 65535 l)) := qh rfl
  have HN := qh hn
  clear hn
  go_enter Tryz.func58, Tryz.ntmps58
  go_wp2_with (first
    | (go_at_call 104; refine (rsum_any A n c l HN.out (by unfold maxLen; omega) _ hb).mono ?_; rintro e w' ⟨rfl, q, rfl⟩; generalize Crc.more 65535 l = m at hs HP)
    | (at_builtin; refine wpList_append_lies kit8 one8 _ rfl (.tmp 6) (.tmp 7) rfl w.heap.size _ 0 [] rfl (World.ownsRow_lit _ #[] 0 (zq _) (by unfold maxLen; omega) rfl) A n c l rfl HN.out ((hb.drewN q).alloc _) (by omega) (by unfold maxLen; omega) (by simp) ?_; intro A2 c2 w2 hown2 _ hb2; simp only [Nat.zero_add, List.nil_append] at hown2; have hbb2 := (drewN_below ((Below.refl w.heap.size w).alloc (zq _) _) q).trans hb2; have hz := hbb2.size; have HBV := qh (tail_map m hs))
    | (at_builtin; go_must (refine wpList_append_lies kit8 one8 _ rfl (.tmp 8) (.tmp 15) rfl w.heap.size _ n l rfl (hown2.alloc _) (some ⟨w2.heap.size, 0, none⟩) 2 2 (Crc.tail m) rfl rfl (lies_new (f := u8v) _ _ _ _ (by rw [HBV.out]; rfl)) (by omega) (by unfold maxLen; omega) (by simp; omega) ?_; intro A3 c3 w3 hown3 _ hb3)))
  go_ret
  exact ⟨A3, c3, rfl, by rw [HP.out]; exact hown3, hbb2.trans (((Below.refl _ _).alloc hz _).trans hb3)⟩
theorem rput3_any (A : Option Addr) (n c : Nat) (l : List UInt8) (hn : l.length = n) (hm : n ≤ 65536) (w : World) (hb : Lies u8v w A l) :
    Calls Tryz.prog 58 #[.slice A n c] w fun e w' => ∃ A' c', e = .returned (.slice A' (n + 2) c') ∧ n + 2 ≤ c' ∧ c' ≤ maxLen ∧ Lies u8v w' A' (Crc.put l) ∧ Below w.heap.size w w' := by
  refine (rput_own A n c l hn hm w hb).mono ?_
  rintro e w' ⟨A', c', rfl, hown, hbe⟩
  obtain ⟨h5, h6, _, h7⟩ := own_at hown
  exact ⟨A', c', rfl, h5, h6, h7, hbe⟩

end Go.Proofs.YtlgmjnjhdamknaaGreat

namespace Go.Proofs.YtlgmjnjhdamknaaGreat
open Go.RowKit

section
variable {P : Program} {t e : TypeId}
theorem run_string_of (K : EK P t e (.int .u8 0) 1) (he : P.underlying e = some (.int .u8)) (w : World) (A : Option Addr) (n c : Nat) (l : List UInt8) (hn : l.length = n) (hb : Lies u8v w A l) (dst : TypeId) (hd : P.underlying dst = some .string) :
    (convert t dst (.slice A n c)).run P w = .ok (.string ⟨l.toArray⟩) w := by
  rcases A with _ | ad
  · obtain rfl : l = [] := by
      rcases l with _ | ⟨y, r⟩
      · rfl
      · obtain ⟨_, _, h, _⟩ := hb 0 (by simp)
        cases h
    exact run_convert_bytes_nil w t e K.ht he n c dst hd
  · have hl : (loadCells ad n).run P w = .ok ((l.map fun x => (x.toNat : Int)).map (Value.int .u8)).toArray w := by
      have := run_loadCells_list (P := P) w ad ((l.map u8v)) (fun j u hu => by
        have hj : j < l.length := by
          rcases Nat.lt_or_ge j l.length with h | h
          · exact h
          · rw [List.getElem?_map, List.getElem?_eq_none h] at hu; cases hu
        obtain ⟨b, off, h, _⟩ := hb j hj
        injection h with h
        subst h
        exact hb.cells_add j u hu)
      rw [List.length_map, hn] at this
      rw [this, List.map_map]
      rfl
    rw [run_convert_bytes_string w t dst e _ n c K.ht he hd, run_bytesToString w _ n c _ hl, foldl_push_bytes]
    congr 3
    simp [ByteArray.empty, ByteArray.emptyWithCapacity]
    have hf : ((fun n : Int => UInt8.ofNat n.toNat) ∘ fun x : UInt8 => (x.toNat : Int)) = id := by funext x; simp
    rw [hf, List.map_id]
    rfl
end

set_option maxHeartbeats 400000 in
theorem equal_any (A1 A2 : Option Addr) (n m c d : Nat) (l k : List UInt8) (hn : l.length = n) (hm : k.length = m) (w : World) (h1 : Lies u8v w A1 l) (h2 : Lies u8v w A2 k) :
    Calls Tryz.prog 182 #[.slice A1 n c, .slice A2 m d] w fun e w' => e = .returned (.bool (l == k)) ∧ w = w' := by
  have r1 := run_string_of kit8 Tryz.underlying5 w A1 n c l hn h1 9 Tryz.underlying9
  have r2 := run_string_of kit8 Tryz.underlying5 w A2 m d k hm h2 9 Tryz.underlying9
  clear hn hm h1 h2
  go_enter Tryz.func182, Tryz.ntmps182
  go_wp2
  go_ret
  exact ⟨rfl, rfl⟩


section
variable {α : Type} [BEq α] [LawfulBEq α]
end

end Go.Proofs.YtlgmjnjhdamknaaGreat

namespace Go.Proofs.YtlgmjnjhdamknaaGreat
open Go.RowKit

namespace Crc
def front (l : List UInt8) : List UInt8 := l.take (l.length - 2)
def isPut (l : List UInt8) : Bool := decide (2 ≤ l.length) && (put (front l) == l)
def cut (l : List UInt8) : List UInt8 := if isPut l then front l else []
theorem front_length (l : List UInt8) : (front l).length = l.length - 2 := by
  unfold front; rw [List.length_take]; omega
theorem isPut_short (l : List UInt8) (h : l.length < 2) : isPut l = false := by
  unfold isPut; rw [decide_eq_false (by omega)]; rfl
theorem isPut_long (l : List UInt8) (h : 2 ≤ l.length) : isPut l = (put (front l) == l) := by
  unfold isPut; rw [decide_eq_true h]; rfl
end Crc

def CutPost3 (w : World) (l : List UInt8) (e : Ending) (w' : World) : Prop :=
  ∃ A' n' c', e = .returned (.tuple #[.slice A' n' c', .bool (Crc.isPut l)]) ∧ (Crc.cut l).length = n' ∧ n' ≤ c' ∧ c' ≤ maxLen ∧ Lies u8v w' A' (Crc.cut l) ∧ Below w.heap.size w w'
theorem CutPost3.none (w w' : World) (l : List UInt8) (h : Crc.isPut l = false) (hb : Below w.heap.size w w') : CutPost3 w l (.returned (.tuple #[.slice Option.none 0 0, .bool false])) w' :=
  have hc : Crc.cut l = [] := by unfold Crc.cut; rw [h]; rfl
  ⟨Option.none, 0, 0, by rw [h], by rw [hc]; rfl, zq _, Nat.zero_le _, by rw [hc]; exact Lies.nil _ _, hb⟩
theorem CutPost3.some (w w' : World) (l : List UInt8) (A : Option Addr) (n c : Nat) (h : Crc.isPut l = true) (hn : l.length - 2 = n) (hc : n ≤ c) (hm : c ≤ maxLen) (hy : Lies u8v w' A (Crc.front l)) (hb : Below w.heap.size w w') :
    CutPost3 w l (.returned (.tuple #[.slice A n c, .bool true])) w' :=
  have hc' : Crc.cut l = Crc.front l := by unfold Crc.cut; rw [h]; rfl
  ⟨A, n, c, by rw [h], by rw [hc', Crc.front_length]; exact hn, hc, hm, by rw [hc']; exact hy, hb⟩

theorem front_put (l : List UInt8) (h : Crc.put (Crc.front l) = l) : Crc.front l = (Crc.put (Crc.front l)).take (l.length - 2) := by rw [h]; rfl

set_option maxRecDepth 100000 in
set_option maxHeartbeats 400000 in
theorem cut_any (A : Option Addr) (n c : Nat) (l : List UInt8) (hn : l.length = n) (hnc : n ≤ c) (hm : n ≤ 65536) (w : World) (hb : Lies u8v w A l) :
    Calls Tryz.prog 178 #[.slice A n c] w (CutPost3 w l) := by
  by_cases h2 : n < 2
  · have HI := qh (Crc.isPut_short l (by omega))
    clear hn
    go_enter Tryz.func178, Tryz.ntmps178
    go_wp2
    go_ret2
    exact CutPost3.none _ _ _ HI.out (Below.refl _ _)
  · have HI := qh (Crc.isPut_long l (by omega))
    obtain ⟨m, rfl⟩ : ∃ m, n = m + 2 := ⟨n - 2, by omega⟩
    have HF := qh ((Crc.front_length l).trans (show l.length - 2 = m by omega))
    have HN := qh hn
    have hbf : Lies u8v w A (Crc.front l) := hb.take _
    clear hn
    go_enter Tryz.func178, Tryz.ntmps178
    by_cases hq : (Crc.put (Crc.front l) == l) = true
    · have HQ := qh hq
      rw [hq] at HI
      clear hq
      go_wp2_with (first
        | (go_at_call 46; go_must (refine (put3_any A m c (Crc.front l) HF.out (by omega) _ hbf).mono ?_; rintro e w1 ⟨A1, c1, rfl, hc1, hc2, hb1, hbe1⟩); have hc3 := hc2; unfold maxLen at hc3)
        | (go_at_call 182; go_must (refine (equal_any A1 A (m + 2) (m + 2) c1 c (Crc.put (Crc.front l)) l (by rw [Crc.put_length, HF.out]) HN.out _ hb1 (hb.below hbe1 (zq _))).mono ?_; rintro e w2 ⟨rfl, rfl⟩; rw [HQ.out])))
      go_ret2
      have hp : Crc.put (Crc.front l) = l := beq_iff_eq.1 HQ.out
      have hl : l.length = m + 2 := HN.out
      refine CutPost3.some w _ l A1 m m HI.out (by omega) (zq _) (by unfold maxLen; omega) ?_ hbe1
      have := hb1.take (l.length - 2)
      rwa [← front_put l hp] at this
    · have hq : (Crc.put (Crc.front l) == l) = false := by simpa using hq
      have HQ := qh hq
      rw [hq] at HI
      clear hq
      go_wp2_with (first
        | (go_at_call 46; go_must (refine (put3_any A m c (Crc.front l) HF.out (by omega) _ hbf).mono ?_; rintro e w1 ⟨A1, c1, rfl, hc1, hc2, hb1, hbe1⟩); have hc3 := hc2; unfold maxLen at hc3)
        | (go_at_call 182; go_must (refine (equal_any A1 A (m + 2) (m + 2) c1 c (Crc.put (Crc.front l)) l (by rw [Crc.put_length, HF.out]) HN.out _ hb1 (hb.below hbe1 (zq _))).mono ?_; rintro e w2 ⟨rfl, rfl⟩; rw [HQ.out])))
      go_ret2
      exact CutPost3.none _ _ _ HI.out hbe1

set_option maxRecDepth 100000 in
set_option maxHeartbeats 400000 in
theorem rcut_any (A : Option Addr) (n c : Nat) (l : List UInt8) (hn : l.length = n) (hnc : n ≤ c) (hm : n ≤ 65536) (w : World) (hb : Lies u8v w A l) :
    Calls Tryz.prog 59 #[.slice A n c] w (CutPost3 w l) := by
  by_cases h2 : n < 2
  · have HI := qh (Crc.isPut_short l (by omega))
    clear hn
    go_enter Tryz.func59, Tryz.ntmps59
    go_wp2
    go_ret2
    exact CutPost3.none _ _ _ HI.out (Below.refl _ _)
  · have HI := qh (Crc.isPut_long l (by omega))
    obtain ⟨m, rfl⟩ : ∃ m, n = m + 2 := ⟨n - 2, by omega⟩
    have HF := qh ((Crc.front_length l).trans (show l.length - 2 = m by omega))
    have HN := qh hn
    have hbf : Lies u8v w A (Crc.front l) := hb.take _
    clear hn
    go_enter Tryz.func59, Tryz.ntmps59
    by_cases hq : (Crc.put (Crc.front l) == l) = true
    · have HQ := qh hq
      rw [hq] at HI
      clear hq
      go_wp2_with (first
        | (go_at_call 58; go_must (refine (rput3_any A m c (Crc.front l) HF.out (by omega) _ hbf).mono ?_; rintro e w1 ⟨A1, c1, rfl, hc1, hc2, hb1, hbe1⟩); have hc3 := hc2; unfold maxLen at hc3)
        | (go_at_call 14; go_must (refine (rsame8_any A1 A (m + 2) (m + 2) c1 c (Crc.put (Crc.front l)) l (by rw [Crc.put_length, HF.out]) HN.out (by unfold maxLen; omega) _ hb1 (hb.below hbe1 (zq _))).mono ?_; rintro e w2 ⟨rfl, q, rfl⟩; rw [HQ.out])); have hz := hbe1.size
        | (at_builtin; go_must (refine wpList_append_lies kit8 one8 _ rfl (.tmp 18) (.tmp 19) rfl w.heap.size _ 0 [] rfl (World.ownsRow_lit _ #[] 0 (by simp; omega) (by unfold maxLen; omega) rfl) A m c (Crc.front l) rfl HF.out (((hbf.below hbe1 (zq _)).drewN q).alloc _) (by omega) (by unfold maxLen; omega) (by simp; omega) ?_; intro A2 c2 w2 hown2 _ hb2; simp only [Nat.zero_add, List.nil_append] at hown2)))
      go_ret2
      have hl : l.length = m + 2 := HN.out
      obtain ⟨h5, h6, _, h7⟩ := own_at hown2
      exact CutPost3.some w _ l A2 m c2 HI.out (by omega) h5 h6 h7 ((drewN_below (hbe1.alloc hbe1.size _) q).trans hb2)
    · have hq : (Crc.put (Crc.front l) == l) = false := by simpa using hq
      have HQ := qh hq
      rw [hq] at HI
      clear hq
      go_wp2_with (first
        | (go_at_call 58; go_must (refine (rput3_any A m c (Crc.front l) HF.out (by omega) _ hbf).mono ?_; rintro e w1 ⟨A1, c1, rfl, hc1, hc2, hb1, hbe1⟩); have hc3 := hc2; unfold maxLen at hc3)
        | (go_at_call 14; go_must (refine (rsame8_any A1 A (m + 2) (m + 2) c1 c (Crc.put (Crc.front l)) l (by rw [Crc.put_length, HF.out]) HN.out (by unfold maxLen; omega) _ hb1 (hb.below hbe1 (zq _))).mono ?_; rintro e w2 ⟨rfl, q, rfl⟩; rw [HQ.out])))
      go_ret2
      exact CutPost3.none _ _ _ HI.out (drewN_below hbe1 q)
end Go.Proofs.YtlgmjnjhdamknaaGreat
