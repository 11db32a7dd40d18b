/-
  Are bytes the same: bytes.Equal and the document's.
-/
import Derived.Test.YtlabjopmimnifaaPut
namespace Go.Proofs.Ytlabjopmimnifaa
open Go.RowKit

section
variable {P : Program} {t e : TypeId}
/-- 'string(b)'. -/
theorem run_string_of (K : EK P t e (.int .u8 0) 1) (he : P.underlying e = some (.int .u8)) (w : World) (A : Option Addr) (n c : Nat) (l : List UInt8) (hn : l.length = n) (hb : Lies u8v w A l) (dst : TypeId) (hd : P.underlying dst = some .string) :
    (convert t dst (.slice A n c)).run P w = .ok (.string ⟨l.toArray⟩) w := by
  rcases A with _ | ad
  · obtain rfl : l = [] := by
      rcases l with _ | ⟨y, r⟩
      · rfl
      · obtain ⟨_, _, h, _⟩ := hb 0 (by simp)
        cases h
    exact run_convert_bytes_nil w t e K.ht he n c dst hd
  · have hl : (loadCells ad n).run P w = .ok ((l.map fun x => (x.toNat : Int)).map (Value.int .u8)).toArray w := by
      have := run_loadCells_list (P := P) w ad ((l.map u8v)) (fun j u hu => by
        have hj : j < l.length := by
          rcases Nat.lt_or_ge j l.length with h | h
          · exact h
          · rw [List.getElem?_map, List.getElem?_eq_none h] at hu; cases hu
        obtain ⟨b, off, h, _⟩ := hb j hj
        injection h with h
        subst h
        exact hb.cells_add j u hu)
      rw [List.length_map, hn] at this
      rw [this, List.map_map]
      rfl
    rw [run_convert_bytes_string w t dst e _ n c K.ht he hd, run_bytesToString w _ n c _ hl, foldl_push_bytes]
    congr 3
    simp [ByteArray.empty, ByteArray.emptyWithCapacity]
    have hf : ((fun n : Int => UInt8.ofNat n.toNat) ∘ fun x : UInt8 => (x.toNat : Int)) = id := by funext x; simp
    rw [hf, List.map_id]
    rfl
end

set_option maxHeartbeats 400000 in
theorem equal_any (A1 A2 : Option Addr) (n m c d : Nat) (l k : List UInt8) (hn : l.length = n) (hm : k.length = m) (w : World) (h1 : Lies u8v w A1 l) (h2 : Lies u8v w A2 k) :
    Calls Try.prog 21 #[.slice A1 n c, .slice A2 m d] w fun e w' => e = .returned (.bool (l == k)) ∧ w = w' := by
  have r1 := run_string_of kit8 Try.underlying5 w A1 n c l hn h1 9 Try.underlying9
  have r2 := run_string_of kit8 Try.underlying5 w A2 m d k hm h2 9 Try.underlying9
  clear hn hm h1 h2
  go_enter Try.func21, Try.ntmps21
  go_wp2
  go_ret
  exact ⟨rfl, rfl⟩


theorem take_step {α : Type} (l k : List α) (i : Nat) (h1 : i < l.length) (h2 : i < k.length) (ht : l.take i = k.take i) (hx : l[i] = k[i]) : l.take (i + 1) = k.take (i + 1) := by
  rw [List.take_succ_eq_append_getElem h1, List.take_succ_eq_append_getElem h2, ht, hx]
section
variable {α : Type} [BEq α] [LawfulBEq α]
theorem same_no (l k : List α) (i : Nat) (h1 : i < l.length) (h2 : i < k.length) (hx : l[i] ≠ k[i]) : (l == k) = false := by
  rw [beq_eq_false_iff_ne]
  rintro rfl
  exact hx rfl
theorem same_len (l k : List α) (h : l.length ≠ k.length) : (l == k) = false := by
  rw [beq_eq_false_iff_ne]
  rintro rfl
  exact h rfl
theorem same_yes (l k : List α) (h : l.length = k.length) (ht : l.take l.length = k.take l.length) : (l == k) = true := by
  rw [beq_iff_eq]
  rwa [List.take_length, h, List.take_length] at ht
end

set_option maxRecDepth 100000 in
set_option maxHeartbeats 400000 in
theorem rsame8_any (A1 A2 : Option Addr) (n m c d : Nat) (l k : List UInt8) (hn : l.length = n) (hm : k.length = m) (hmn : n ≤ maxLen) (w : World) (h1 : Lies u8v w A1 l) (h2 : Lies u8v w A2 k) :
    Calls Try.prog 11 #[.slice A1 n c, .slice A2 m d] w fun e w' => e = .returned (.bool (l == k)) ∧ ∃ q, w' = w.drewN q := by
  subst hn
  subst hm
  unfold maxLen at hmn
  by_cases hlen : l.length = k.length
  · have he : ((l.length : Int) != (k.length : Int)) = false := by rw [hlen]; simp
    have HLEN := Lib.hid hlen
    have hle : l.length ≤ k.length := by omega
    clear hlen
    go_enter Try.func11, Try.ntmps11
    go_wp2
    go_loopw [5] (fun i wr => ∃ j : Nat, j ≤ l.length ∧ i = .int .i64 j ∧ l.take j = k.take j ∧ ∃ q, wr = w.drewN q) (fun i _ => l.length - (intOf i).toNat)
    case atStart => exact ⟨0, Nat.zero_le _, rfl, rfl, 0, rfl⟩
    case round =>
      obtain ⟨j, hj, rfl, ht, q, rfl⟩ := hrel
      have HT := Lib.hid ht
      clear ht
      by_cases hlt : j < l.length
      · obtain ⟨b1, o1, rfl, hc1⟩ := h1 j hlt
        have hlt2 : j < k.length := by omega
        obtain ⟨b2, o2, rfl, hc2⟩ := h2 j hlt2
        unfold u8v at hc1 hc2
        by_cases hx : l[j] = k[j]
        · have HS := Lib.hid (take_step l k j hlt hlt2 HT.out hx)
          rw [← hx] at hc2
          clear hx
          generalize l[j] = x at hc1 hc2
          go_wp2
          go_quiet (fail)
          go_wp2
          go_roundw
          case rel => exact ⟨j + 1, by omega, by go_num, HS.out, _, rfl⟩
          case measure => simp [intOf]; omega
        · have HS := Lib.hid (same_no l k j hlt hlt2 hx)
          have hne : (((l[j]).toNat : Int) != ((k[j]).toNat : Int)) = true := by
            rw [bne_iff_ne]
            intro e
            exact hx (UInt8.toNat_inj.1 (by exact_mod_cast e))
          clear hx
          generalize l[j] = x at hc1 hne
          generalize k[j] = y at hc2 hne
          go_wp2
          go_quiet (fail)
          go_wp2
          go_ret
          exact ⟨by rw [HS.out]; rfl, _, World.drewN_drewN _ _ _⟩
      · obtain rfl : j = l.length := by omega
        have HS := Lib.hid (same_yes l k HLEN.out HT.out)
        go_wp2
        go_ret
        exact ⟨by rw [HS.out]; rfl, _, rfl⟩
  · have he : ((l.length : Int) != (k.length : Int)) = true := by rw [bne_iff_ne]; omega
    have HS := Lib.hid (same_len l k hlen)
    clear hlen
    go_enter Try.func11, Try.ntmps11
    go_wp2
    go_ret
    exact ⟨by rw [HS.out]; rfl, 0, rfl⟩

end Go.Proofs.Ytlabjopmimnifaa
