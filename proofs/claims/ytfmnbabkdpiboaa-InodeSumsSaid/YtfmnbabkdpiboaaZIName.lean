/- Names: what inName and Name answer; the document's. -/
import Derived.Test.YtfmnbabkdpiboaaRows
import Derived.Test.YtfmnbabkdpiboaaZWMath
import Derived.Test.YtfmnbabkdpiboaaZWRead
import Derived.WalkSpells
import Derived.WalkLawsBesides
import Derived.Lib.Hide

namespace Go.Proofs.Ytfmnbabkdpiboaa
open Go.RowKit
open Fr (byte_lt)

set_option maxRecDepth 100000 in
set_option maxHeartbeats 4000000 in
theorem inName_any (c : UInt8) (w : World) : Calls Try.prog 26 #[.int .u8 (c.toNat : Int)] w fun e w' => e = .returned (.bool (okByte c)) ∧ w' = w := by
  have hc := byte_lt c
  unfold okByte
  generalize c.toNat = n at *
  rcases (by omega : n < 45 ∨ n = 45 ∨ n = 46 ∨ n = 47 ∨ (48 ≤ n ∧ n ≤ 57) ∨ (58 ≤ n ∧ n ≤ 94) ∨ n = 95 ∨ n = 96 ∨ (97 ≤ n ∧ n ≤ 122) ∨ 123 ≤ n) with h | h | h | h | h | h | h | h | h | h
  case inr.inl => subst h; go_enter Try.func26, Try.ntmps26; go_wp2; go_ret; exact ⟨rfl, rfl⟩
  case inr.inr.inl => subst h; go_enter Try.func26, Try.ntmps26; go_wp2; go_ret; exact ⟨rfl, rfl⟩
  case inr.inr.inr.inl => subst h; go_enter Try.func26, Try.ntmps26; go_wp2; go_ret; exact ⟨rfl, rfl⟩
  case inr.inr.inr.inr.inr.inr.inl => subst h; go_enter Try.func26, Try.ntmps26; go_wp2; go_ret; exact ⟨rfl, rfl⟩
  case inr.inr.inr.inr.inr.inr.inr.inl => subst h; go_enter Try.func26, Try.ntmps26; go_wp2; go_ret; exact ⟨rfl, rfl⟩
  all_goals
    have f5 : ¬ ((n : Int) = 46) := by omega
    have f6 : ¬ ((n : Int) = 45) := by omega
    have f7 : ¬ ((n : Int) = 95) := by omega
    have g5 : ¬ (n = 46) := by omega
    have g6 : ¬ (n = 45) := by omega
    have g7 : ¬ (n = 95) := by omega
  case inl =>
    have f1 : ¬ ((97 : Int) ≤ n) := by omega
    have f3 : ¬ ((48 : Int) ≤ n) := by omega
    have e1 : ¬ (97 ≤ n) := by omega
    have e3 : ¬ (48 ≤ n) := by omega
    go_enter Try.func26, Try.ntmps26; go_wp2; go_ret; refine ⟨?_, rfl⟩; simp [e1, e3, g5, g6, g7, f5, f6, f7]
  case inr.inr.inr.inr.inl =>
    have f1 : ¬ ((97 : Int) ≤ n) := by omega
    have f3 : (48 : Int) ≤ n := by omega
    have f4 : (n : Int) ≤ 57 := by omega
    have e1 : ¬ (97 ≤ n) := by omega
    go_enter Try.func26, Try.ntmps26; go_wp2; go_ret; refine ⟨?_, rfl⟩; simp [e1, h.1, h.2]
  case inr.inr.inr.inr.inr.inl =>
    have f1 : ¬ ((97 : Int) ≤ n) := by omega
    have f3 : (48 : Int) ≤ n := by omega
    have f4 : ¬ ((n : Int) ≤ 57) := by omega
    have e1 : ¬ (97 ≤ n) := by omega
    have e4 : ¬ (n ≤ 57) := by omega
    go_enter Try.func26, Try.ntmps26; go_wp2; go_ret; refine ⟨?_, rfl⟩; simp [e1, e4, g5, g6, g7, f5, f6, f7]
  case inr.inr.inr.inr.inr.inr.inr.inr.inl =>
    have f1 : (97 : Int) ≤ n := by omega
    have f2 : (n : Int) ≤ 122 := by omega
    go_enter Try.func26, Try.ntmps26; go_wp2; go_ret; refine ⟨?_, rfl⟩; simp [h.1, h.2]
  case inr.inr.inr.inr.inr.inr.inr.inr.inr =>
    have f1 : (97 : Int) ≤ n := by omega
    have f2 : ¬ ((n : Int) ≤ 122) := by omega
    have f3 : (48 : Int) ≤ n := by omega
    have f4 : ¬ ((n : Int) ≤ 57) := by omega
    have e2 : ¬ (n ≤ 122) := by omega
    have e4 : ¬ (n ≤ 57) := by omega
    go_enter Try.func26, Try.ntmps26; go_wp2; go_ret; refine ⟨?_, rfl⟩; simp [e2, e4, g5, g6, g7, f5, f6, f7]
theorem all_take (s : ByteArray) (k : Nat) (h : k < s.size) : (s.data.toList.take (k + 1)).all okByte = ((s.data.toList.take k).all okByte && okByte s[k]) := by
  rw [Fr.take_snoc s k h, List.all_append]; simp
set_option maxRecDepth 100000 in
set_option maxHeartbeats 4000000 in
theorem name_any (s : ByteArray) (w : World) (hs : s.size ≤ 9223372036854775807) : Calls Try.prog 12 #[.string s] w fun e w' => e = .returned (.bool (okName s)) ∧ w' = w := by
  have HN : Hid (okName s = (decide (1 ≤ s.size) && decide (s.size ≤ 24) && s.data.toList.all okByte)) := rfl
  generalize okName s = b at *
  by_cases h1 : s.size < 1
  · have z1 : (s.size : Int) < 1 := by omega
    obtain rfl : b = false := by rw [HN.out]; simp; omega
    clear HN
    go_enter Try.func12, Try.ntmps12
    go_wp2
    go_ret
    exact ⟨rfl, rfl⟩
  · have z1 : ¬ ((s.size : Int) < 1) := by omega
    by_cases h2 : 24 < s.size
    · have z2 : (24 : Int) < s.size := by omega
      obtain rfl : b = false := by rw [HN.out]; simp; omega
      clear HN
      go_enter Try.func12, Try.ntmps12
      go_wp2
      go_ret
      exact ⟨rfl, rfl⟩
    · have z2 : ¬ ((24 : Int) < s.size) := by omega
      have HN2 : Hid (b = s.data.toList.all okByte) := by
        show _ = _
        rw [HN.out]; simp; omega
      clear HN
      go_enter Try.func12, Try.ntmps12
      go_wp2
      go_loop [14] (fun i => ∃ k : Nat, k ≤ s.size ∧ i = .int .i64 k ∧ Hid ((s.data.toList.take k).all okByte = true)) (fun i => s.size - (intOf i).toNat)
      case atStart => exact ⟨0, Nat.zero_le _, rfl, rfl⟩
      case round =>
        obtain ⟨k, hk, rfl, HK⟩ := hrel
        by_cases hlt : k < s.size
        · have hT := all_take s k hlt
          rw [HK.out] at hT
          have HT := Lib.hid hT; clear hT
          have HI := Lib.hid fun W => inName_any s[k] W
          cases hb : okByte s[k]
          · rw [hb] at HT HI
            have HF : Hid (b = false) := by
              show _ = _
              rw [HN2.out]
              cases e : s.data.toList.all okByte with
              | false => rfl
              | true =>
                have := List.all_eq_true.1 e s[k] (by rw [Array.mem_toList_iff]; exact Array.getElem_mem _)
                rw [hb] at this; cases this
            clear HT HN2 HK
            go_wp2_with (go_at_call 26; refine (HI.out _).mono ?_; rintro e w2 ⟨rfl, rfl⟩)
            go_ret
            exact ⟨by have := HF.out; subst this; rfl, rfl⟩
          · rw [hb] at HT HI
            clear HK
            go_wp2_with (go_at_call 26; refine (HI.out _).mono ?_; rintro e w2 ⟨rfl, rfl⟩)
            go_round
            case rel => exact ⟨k + 1, by omega, by go_num, by rw [HT.out]; rfl⟩
            case measure => simp [intOf]; omega
        · obtain rfl : k = s.size := by omega
          have HF : Hid (b = true) := by
            show _ = _
            rw [HN2.out, ← HK.out, List.take_of_length_le (by simp)]
          clear HN2 HK
          go_wp2
          go_ret
          exact ⟨by have := HF.out; subst this; rfl, rfl⟩
end Go.Proofs.Ytfmnbabkdpiboaa
