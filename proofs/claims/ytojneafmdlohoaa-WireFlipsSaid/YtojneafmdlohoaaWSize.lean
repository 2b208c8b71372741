/- Numbers of as few bytes as there can be: what varSize and ToVar answer, for any text. -/
import Derived.Test.YtojneafmdlohoaaWFix
namespace Go.Proofs.Ytojneafmdlohoaa
open Go.RowKit

theorem getB (s : ByteArray) (k : Nat) (h : k < s.size) : s.data.toList[k]'(by simpa using h) = s[k] := rfl
theorem retI {k : IntKind} {a b : Int} (h : a = b) : Ending.returned (.int k a) = .returned (.int k b) := by rw [h]

set_option maxRecDepth 100000 in
set_option maxHeartbeats 1000000 in
theorem varSize_any (s : ByteArray) (w : World) (hs : s.size ≤ maxLen) :
    Calls Try.prog 27 #[.string s] w fun e w' => e = .returned (.int .i64 ((vsz 0 s.data.toList : Nat) : Int)) ∧ w = w' := by
  unfold maxLen at hs
  have hcase : ∃ m : Nat, m ≤ s.size ∧ m ≤ 10 ∧ Hid (s.size ≤ m ∨ 10 ≤ m) ∧ (((10 : Int) < (s.size : Int) ∧ Hid (Value.int .i64 10 = .int .i64 (m : Int))) ∨ ((s.size : Int) ≤ 10 ∧ Hid (Value.int .i64 (s.size : Int) = .int .i64 (m : Int)))) := by
    by_cases h : (10 : Int) < (s.size : Int)
    · exact ⟨10, by omega, Nat.le_refl _, .inr (Nat.le_refl _), .inl ⟨h, rfl⟩⟩
    · exact ⟨s.size, Nat.le_refl _, by omega, .inl (Nat.le_refl _), .inr ⟨by omega, rfl⟩⟩
  obtain ⟨m, hms, hm10, HM, hh⟩ := hcase
  rcases hh with ⟨hh, HR⟩ | ⟨hh, HR⟩
  all_goals
    go_enter Try.func27, Try.ntmps27
    go_wp2
    rw [HR.out]
    clear hh HR
    go_loop [10] (fun i => ∃ k : Nat, k ≤ m ∧ i = .int .i64 k ∧ Hid (vsz 0 s.data.toList = vsz k (s.data.toList.drop k))) (fun i => m - (intOf i).toNat)
    case atStart => exact ⟨0, Nat.zero_le _, rfl, rfl⟩
    case round =>
      obtain ⟨k, hk, rfl, HV⟩ := hrel
      by_cases hlt : k < m
      · have hks : k < s.size := by omega
        have hbl := byte_lt s[k]
        by_cases hb : 128 ≤ s[k].toNat
        · have HN : Hid (vsz 0 s.data.toList = vsz (k + 1) (s.data.toList.drop (k + 1))) := by
            show _ = _; rw [HV.out, vsz_step _ k (by simpa using hks) (by omega) (by rw [getB s k hks]; exact hb)]
          go_wp2
          go_round
          case rel => exact ⟨k + 1, by omega, by go_num, HN⟩
          case measure => simp [intOf]; omega
        · have HN : Hid (vsz 0 s.data.toList = if (0 < k ∧ s[k].toNat = 0) ∨ (k = 9 ∧ 1 < s[k].toNat) then 0 else k + 1) := by
            show _ = _; rw [HV.out, vsz_last _ k (by simpa using hks) (by omega) (by rw [getB s k hks]; omega), getB s k hks]
          go_wp2
          all_goals
            go_ret
            refine ⟨retI ?_, rfl⟩
            rw [HN.out]
            clear HN HV HM
            split <;> first | omega | (have hq : (((s[k].toNat : Int) == 0) = false ∧ (s[k].toNat : Int) ≤ 1) := (by assumption); have := hq.2; omega) | (have hq : (((s[k].toNat : Int) == 0) = true ∨ 1 < (s[k].toNat : Int)) := (by assumption); rcases hq with hq | hq <;> first | omega | (simp at hq; omega))
      · have HZ : Hid (vsz 0 s.data.toList = 0) := by
          show _ = _; rw [HV.out]; apply vsz_end; have := HM.out; have e : s.data.toList.length = s.size := by simp
          omega
        go_wp2
        go_ret
        exact ⟨by rw [HZ.out]; rfl, rfl⟩

theorem val_or (v b k : Nat) (hk : 7 * k + 7 ≤ 64 ∨ (7 * k + 1 ≤ 64 ∧ b % 128 < 2)) (hv : v < 128 ^ k) :
    bits .or .u64 (v : Int) (((b % 128 : Nat) : Int) * 2 ^ (7 * k) % 18446744073709551616) = ((v + b % 128 * 128 ^ k : Nat) : Int) := by
  have e : (128 : Nat) ^ k = 2 ^ (7 * k) := by rw [show (128 : Nat) = 2 ^ 7 from rfl, ← Nat.pow_mul]
  rw [e] at hv ⊢
  have hlt : b % 128 * 2 ^ (7 * k) < 18446744073709551616 := by
    rcases hk with hk | ⟨hk, hb2⟩
    · have h1 : b % 128 * 2 ^ (7 * k) < 128 * 2 ^ (7 * k) := (Nat.mul_lt_mul_right (Nat.two_pow_pos _)).2 (by omega)
      have h2 : 128 * 2 ^ (7 * k) = 2 ^ (7 * k + 7) := by rw [Nat.pow_add, Nat.mul_comm]
      have h3 : 2 ^ (7 * k + 7) ≤ 2 ^ 64 := Nat.pow_le_pow_right (by omega) hk
      omega
    · have h1 : b % 128 * 2 ^ (7 * k) < 2 * 2 ^ (7 * k) := (Nat.mul_lt_mul_right (Nat.two_pow_pos _)).2 hb2
      have h2 : 2 * 2 ^ (7 * k) = 2 ^ (7 * k + 1) := by rw [Nat.pow_add, Nat.mul_comm]
      have h3 : 2 ^ (7 * k + 1) ≤ 2 ^ 64 := Nat.pow_le_pow_right (by omega) hk
      omega
  have hv2 : v < 18446744073709551616 := by
    have h3 : 2 ^ (7 * k) ≤ 2 ^ 64 := Nat.pow_le_pow_right (by omega) (by omega)
    omega
  have ec : ((b % 128 : Nat) : Int) * 2 ^ (7 * k) % 18446744073709551616 = ((b % 128 * 2 ^ (7 * k) : Nat) : Int) := by
    have : ((b % 128 : Nat) : Int) * 2 ^ (7 * k) = ((b % 128 * 2 ^ (7 * k) : Nat) : Int) := by rw [Int.natCast_mul, Int.natCast_pow]; rfl
    rw [this]; omega
  rw [ec, u64_or_nat _ _ hv2 hlt, join_or (7 * k) _ _ (Nat.mul_mod_left _ _) hv]

theorem step_or (s : ByteArray) (k n : Nat) (hk : k < n) (hn : n ≤ 10) (hs : k < s.size) (hv : valL (s.data.toList.take n) < 18446744073709551616) :
    bits .or .u64 ((valL (s.data.toList.take k) : Nat) : Int) (IntKind.u64.wrap (IntKind.u64.wrap (bits .and .u8 (s[k].toNat : Int) 127) * 2 ^ (7 * k))) = ((valL (s.data.toList.take (k + 1)) : Nat) : Int) := by
  have hb := byte_lt s[k]
  have hlen : (s.data.toList.take k).length = k := by simp; omega
  have hvk := valL_lt (s.data.toList.take k)
  have hsn := valL_snoc (s.data.toList.take k) s[k]
  rw [hlen] at hvk hsn
  rw [take_snoc s k hs, hsn, show (127 : Int) = ((127 : Nat) : Int) from rfl, u8_and_nat _ _ hb (by omega), nat_mask7, IntKind.wrap_u64, IntKind.wrap_u64,
    show ((s[k].toNat % 128 : Nat) : Int) % 18446744073709551616 = ((s[k].toNat % 128 : Nat) : Int) by omega]
  apply val_or _ _ _ _ hvk
  by_cases h9 : k = 9
  · subst h9
    obtain rfl : n = 9 + 1 := by omega
    rw [take_snoc s 9 hs, hsn] at hv
    exact .inr ⟨by omega, by omega⟩
  · exact .inl (by omega)

set_option maxRecDepth 100000 in
set_option maxHeartbeats 1000000 in
theorem toVar_none (s : ByteArray) (w : World) (hs : s.size ≤ maxLen) (hz : vsz 0 s.data.toList = 0) :
    Calls Try.prog 16 #[.string s] w fun e w' => e = .returned (.tuple #[.int .u64 0, .string ⟨#[]⟩, .bool false]) ∧ Below w.heap.size w w' := by
  have C := Lib.hid (varSize_any s w hs)
  rw [hz] at C
  clear hz
  go_enter Try.func16, Try.ntmps16
  go_wp2_with fail
  refine C.out.mono ?_
  rintro e w' ⟨rfl, rfl⟩
  go_wp2
  go_ret3
  exact ⟨rfl, Below.refl _ _⟩
set_option maxRecDepth 100000 in
set_option maxHeartbeats 1000000 in
theorem toVar_some (s : ByteArray) (n : Nat) (w : World) (hs : s.size ≤ maxLen) (hn : vsz 0 s.data.toList = n) (h0 : n ≠ 0) :
    Calls Try.prog 16 #[.string s] w fun e w' => e = .returned (.tuple #[.int .u64 ((valL (s.data.toList.take n) : Nat) : Int), .string (s.extract n s.size), .bool true]) ∧ Below w.heap.size w w' := by
  have C := Lib.hid (varSize_any s w hs)
  rw [hn] at C
  unfold maxLen at hs
  obtain ⟨m, e, h1, h2, h3, h4, h5, _⟩ := vsz_some s.data.toList 0 (by omega) (by rw [hn]; exact h0)
  obtain rfl : n = m := by omega
  have hsn : n ≤ s.size := by have e : s.data.toList.length = s.size := (by simp); omega
  have hnz : ((n : Int) == 0) = false := by simp; omega
  have hn1 : (0 : Int) ≤ (n : Int) := by omega
  have hn2 : (n : Int) ≤ (s.size : Int) := by omega
  have H5 : Hid (valL (s.data.toList.take n) < 18446744073709551616) := h5
  clear hn e h4 h5 h0
  go_enter Try.func16, Try.ntmps16
  go_wp2_with fail
  refine C.out.mono ?_
  rintro e w' ⟨rfl, rfl⟩
  clear C
  go_wp2
  go_loop [6, 13] (fun v i => ∃ k : Nat, k ≤ n ∧ i = .int .i64 k ∧ v = .int .u64 ((valL (s.data.toList.take k) : Nat) : Int)) (fun _ i => n - (intOf i).toNat)
  case atStart => exact ⟨0, Nat.zero_le _, rfl, rfl⟩
  case round =>
    obtain ⟨k, hk, rfl, rfl⟩ := hrel
    by_cases hlt : k < n
    · have hks : k < s.size := by omega
      have hbl := byte_lt s[k]
      have HS := Lib.hid (step_or s k n hlt (by omega) hks H5.out)
      go_wp2
      go_round
      case rel => exact ⟨k + 1, by omega, by go_num, ret_u32 HS.out⟩
      case measure => simp [intOf]; omega
    · obtain rfl : k = n := by omega
      obtain ⟨v, hv⟩ : ∃ v, valL (s.data.toList.take k) = v := ⟨_, rfl⟩
      rw [hv]
      have HV := Lib.hid hv; clear hv
      go_wp2
      go_quiet (fail)
      go_wp2
      go_ret3
      exact ⟨tup3 _ _ _ (by rw [HV.out]), below_drewN (Below.refl _ _) _⟩
end Go.Proofs.Ytojneafmdlohoaa
