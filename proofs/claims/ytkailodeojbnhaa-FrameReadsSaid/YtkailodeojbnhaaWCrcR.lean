/- The document's own sum of bytes is the same: for any text; nothing is changed. -/
import Derived.Test.YtkailodeojbnhaaWCrc
namespace Go.Proofs.Ytkailodeojbnhaa
open Go.RowKit

set_option maxRecDepth 100000 in
set_option maxHeartbeats 1000000 in
theorem rcrc_any (p : ByteArray) (w : World) (hs : p.size ≤ maxLen) :
    Calls Try.prog 28 #[.string p] w fun e w' => e = .returned (.int .u32 ((crcL p.data.toList : Nat) : Int)) ∧ w = w' := by
  unfold maxLen at hs
  go_enter Try.func28, Try.ntmps28
  go_wp2
  go_loop [3, 4] (fun s i => ∃ k : Nat, k ≤ p.size ∧ i = .int .i64 k ∧ s = .int .u32 ((crcRaw 4294967295 (p.data.toList.take k) : Nat) : Int)) (fun _ i => p.size - (intOf i).toNat)
  case atStart => exact ⟨0, Nat.zero_le _, rfl, rfl⟩
  case round =>
    obtain ⟨k, hk, rfl, rfl⟩ := hrel
    have hxl := crcRaw_lt (p.data.toList.take k) 4294967295 (by omega)
    obtain ⟨x, hx⟩ : ∃ x, crcRaw 4294967295 (p.data.toList.take k) = x := ⟨_, rfl⟩
    rw [hx] at hxl ⊢
    have HX := Lib.hid hx; clear hx
    by_cases hlt : k < p.size
    · have HJ : Hid (crcRaw 4294967295 (p.data.toList.take (k + 1)) = addB x p[k]) := by show _ = _; rw [take_snoc p k hlt, crcRaw_snoc, HX.out]
      have hbl := byte_lt p[k]
      have HXX := Lib.hid (xor_u32 x p[k].toNat hxl (by omega))
      have HL := Lib.hid (xor_lt32 x p[k].toNat hxl (by omega))
      go_wp2
      go_loop [3, 5] (fun s i => ∃ j : Nat, j ≤ 8 ∧ i = .int .i64 j ∧ s = .int .u32 ((cIter j (x ^^^ p[k].toNat) : Nat) : Int)) (fun _ i => 8 - (intOf i).toNat)
      case atStart => exact ⟨0, Nat.zero_le _, rfl, ret_u32 HXX.out⟩
      case round =>
        obtain ⟨j, hj, rfl, rfl⟩ := hrel
        have hyl := cIter_lt j _ HL.out
        obtain ⟨y, hy⟩ : ∃ y, cIter j (x ^^^ p[k].toNat) = y := ⟨_, rfl⟩
        have HS : Hid (cIter (j + 1) (x ^^^ p[k].toNat) = cStep y) := by show _ = _; rw [cIter_succ', hy]
        rw [hy] at hyl ⊢
        have HY := Lib.hid hy; clear hy
        by_cases hjl : j < 8
        · by_cases ho : y % 2 = 1
          · have HF : Hid (bits .xor .u32 ((y : Int) / 2) 3988292384 = ((cStep y : Nat) : Int)) := by show _ = _; rw [half_xor y hyl]; unfold cStep; rw [if_pos ho]
            have ho' : (y : Int) % 2 = 1 := by omega
            clear ho
            go_wp2
            go_round
            case rel => exact ⟨j + 1, by omega, by go_num, by rw [HS.out]; exact ret_u32 HF.out⟩
            case measure => simp [intOf]; omega
          · have HF : Hid (((y : Int) / 2) = ((cStep y : Nat) : Int)) := by show _ = _; unfold cStep; rw [if_neg ho]; omega
            have ho' : (y : Int) % 2 = 0 := by omega
            clear ho
            go_wp2
            go_round
            case rel => exact ⟨j + 1, by omega, by go_num, by rw [HS.out]; exact ret_u32 HF.out⟩
            case measure => simp [intOf]; omega
        · have hj8 : j = 8 := by omega
          subst hj8
          have HE : Hid (y = addB x p[k]) := by show _ = _; rw [← HY.out]; rfl
          go_wp2
          go_round
          case rel => exact ⟨k + 1, by omega, by go_num, by rw [HJ.out, HE.out]⟩
          case measure => simp [intOf]; omega
    · have HE : Hid (bits .xor .u32 (x : Int) 4294967295 = ((crcL p.data.toList : Nat) : Int)) := by
        show _ = _
        rw [show (4294967295 : Int) = ((4294967295 : Nat) : Int) from rfl, u32_xor_nat _ _ hxl (by omega), ← HX.out, List.take_of_length_le (by simp; omega)]; rfl
      go_wp2
      go_ret
      exact ⟨by rw [← HE.out]; rfl, rfl⟩
end Go.Proofs.Ytkailodeojbnhaa
