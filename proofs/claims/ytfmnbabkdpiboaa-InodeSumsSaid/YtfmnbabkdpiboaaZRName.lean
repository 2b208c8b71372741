/- The document's Name. -/
import Derived.Test.YtfmnbabkdpiboaaZIBase
import Derived.Deep.DeepCutAuto

namespace Go.Proofs.Ytfmnbabkdpiboaa
open Go.RowKit
open Fr (byte_lt)

set_option maxRecDepth 100000 in
set_option maxHeartbeats 8000000 in
theorem rname_any (s : ByteArray) (w : World) (hs : s.size ≤ 1000000) : Calls Try.prog 13 #[.string s] w fun e w' => e = .returned (.bool (okName s)) ∧ w' = w := by
  have HN : Hid (okName s = (decide (1 ≤ s.size) && decide (s.size ≤ 24) && s.data.toList.all okByte)) := rfl
  generalize okName s = b at *
  go_enter Try.func13, Try.ntmps13
  go_wp2_with fail
  go_loop [3] (fun i => ∃ k : Nat, k ≤ s.size ∧ i = .int .i64 k ∧ Hid ((s.data.toList.take k).all okByte = true)) (fun i => s.size - (intOf i).toNat)
  case atStart => exact ⟨0, Nat.zero_le _, rfl, rfl⟩
  case round =>
    obtain ⟨k, hk, rfl, HK⟩ := hrel
    by_cases hlt : k < s.size
    · have hkz : (k : Int) < (s.size : Int) := by omega
      have hT := all_take s k hlt
      rw [HK.out] at hT
      have HT := Lib.hid hT; clear hT
      have HF : Hid (okByte s[k] = false → b = false) := fun h => by
        rw [HN.out]
        cases e : s.data.toList.all okByte with
        | false => simp
        | true =>
          have := List.all_eq_true.1 e s[k] (by rw [Array.mem_toList_iff]; exact Array.getElem_mem _)
          rw [h] at this; cases this
      have hc := byte_lt s[k]
      have HD : Hid (okByte s[k] = ((decide (97 ≤ s[k].toNat) && decide (s[k].toNat ≤ 122)) || (decide (48 ≤ s[k].toNat) && decide (s[k].toNat ≤ 57)) || decide (s[k].toNat = 46) || decide (s[k].toNat = 45) || decide (s[k].toNat = 95))) := rfl
      generalize okByte s[k] = ob at *
      generalize hsk : s[k].toNat = q at *
      go_upto_region 5 with fail
      go_cut [39] (fun u wx => u = .bool (!ob) ∧ wx = w)
      case first =>
        clear HF HT HK HN
        rcases (by omega : q < 45 ∨ q = 45 ∨ q = 46 ∨ q = 47 ∨ (48 ≤ q ∧ q ≤ 57) ∨ (58 ≤ q ∧ q ≤ 94) ∨ q = 95 ∨ q = 96 ∨ (97 ≤ q ∧ q ≤ 122) ∨ 123 ≤ q) with h | h | h | h | h | h | h | h | h | h
        case inr.inl => subst h; obtain rfl : ob = true := by rw [HD.out]; rfl
                        go_wp2_with fail; go_meet; exact ⟨rfl, rfl⟩
        case inr.inr.inl => subst h; obtain rfl : ob = true := by rw [HD.out]; rfl
                            go_wp2_with fail; go_meet; exact ⟨rfl, rfl⟩
        case inr.inr.inr.inl => subst h; obtain rfl : ob = false := by rw [HD.out]; rfl
                                go_wp2_with fail; go_meet; exact ⟨rfl, rfl⟩
        case inr.inr.inr.inr.inr.inr.inl => subst h; obtain rfl : ob = true := by rw [HD.out]; rfl
                                            go_wp2_with fail; go_meet; exact ⟨rfl, rfl⟩
        case inr.inr.inr.inr.inr.inr.inr.inl => subst h; obtain rfl : ob = false := by rw [HD.out]; rfl
                                                go_wp2_with fail; go_meet; exact ⟨rfl, rfl⟩
        all_goals
          have f5 : ((q : Int) != 46) = true := bne_iff_ne.2 (by omega)
          have f6 : ((q : Int) != 45) = true := bne_iff_ne.2 (by omega)
          have f7 : ((q : Int) != 95) = true := bne_iff_ne.2 (by omega)
        case inl =>
          have f1 : (q : Int) < 97 := by omega
          have f3 : (q : Int) < 48 := by omega
          obtain rfl : ob = false := by rw [HD.out]; simp; omega
          go_wp2_with fail; go_meet; exact ⟨rfl, rfl⟩
        case inr.inr.inr.inr.inl =>
          have f1 : (q : Int) < 97 := by omega
          have f3 : ¬ (q : Int) < 48 := by omega
          have f4 : ¬ (57 : Int) < (q : Int) := by omega
          obtain rfl : ob = true := by rw [HD.out]; simp; omega
          go_wp2_with fail; go_meet; exact ⟨rfl, rfl⟩
        case inr.inr.inr.inr.inr.inl =>
          have f1 : (q : Int) < 97 := by omega
          have f3 : ¬ (q : Int) < 48 := by omega
          have f4 : (57 : Int) < (q : Int) := by omega
          obtain rfl : ob = false := by rw [HD.out]; simp; omega
          go_wp2_with fail; go_meet; exact ⟨rfl, rfl⟩
        case inr.inr.inr.inr.inr.inr.inr.inr.inl =>
          have f1 : ¬ (q : Int) < 97 := by omega
          have f2 : ¬ (122 : Int) < (q : Int) := by omega
          obtain rfl : ob = true := by rw [HD.out]; simp; omega
          go_wp2_with fail; go_meet; exact ⟨rfl, rfl⟩
        case inr.inr.inr.inr.inr.inr.inr.inr.inr =>
          have f1 : ¬ (q : Int) < 97 := by omega
          have f2 : (122 : Int) < (q : Int) := by omega
          have f3 : ¬ (q : Int) < 48 := by omega
          have f4 : (57 : Int) < (q : Int) := by omega
          obtain rfl : ob = false := by rw [HD.out]; simp; omega
          go_wp2_with fail; go_meet; exact ⟨rfl, rfl⟩
      case rest =>
        obtain ⟨rfl, rfl⟩ := hcut
        cases ob
        · obtain rfl := HF.out rfl
          clear HF HT HK HN HD
          go_wp2_with fail
          go_ret
          exact ⟨rfl, rfl⟩
        · have HT2 : Hid ((s.data.toList.take (k + 1)).all okByte = true) := by show _ = _; rw [HT.out]; rfl
          clear HF HT HK HD
          go_wp2_with fail
          go_round
          case rel => exact ⟨k + 1, by omega, by go_num, HT2⟩
          case measure => simp [intOf]; omega
    · obtain rfl : k = s.size := by omega
      have HF : Hid (b = (decide (1 ≤ s.size) && decide (s.size ≤ 24))) := by
        have h1 : s.data.toList.all okByte = true := by rw [← HK.out, List.take_of_length_le (by simp)]
        show _ = _
        rw [HN.out, h1]; simp
      clear HN HK
      by_cases h1 : 1 ≤ s.size
      · have z1 : (1 : Int) ≤ (s.size : Int) := by omega
        by_cases h2 : s.size ≤ 24
        · have z2 : (s.size : Int) ≤ 24 := by omega
          obtain rfl : b = true := by rw [HF.out]; simp; omega
          go_wp2_with fail
          go_ret
          exact ⟨by simp [z1, z2], rfl⟩
        · have z2 : ¬ (s.size : Int) ≤ 24 := by omega
          obtain rfl : b = false := by rw [HF.out]; simp; omega
          go_wp2_with fail
          go_ret
          exact ⟨by simp [z1, z2], rfl⟩
      · have z1 : ¬ (1 : Int) ≤ (s.size : Int) := by omega
        obtain rfl : b = false := by rw [HF.out]; simp; omega
        go_wp2_with fail
        go_ret
        exact ⟨by simp [z1], rfl⟩
end Go.Proofs.Ytfmnbabkdpiboaa
