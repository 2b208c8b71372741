/- BitmapOthers answers true for every text and every numbers: the walk. -/
import Derived.Test.YtlhhmdpfggefgaaMBits
namespace Go.Proofs.Ytlhhmdpfggefgaa
open Go.RowKit

set_option maxRecDepth 100000 in
set_option maxHeartbeats 2000000 in
theorem others_no (s : ByteArray) (a c : Int) (on : Bool) (w : World) (hs : s.size ≤ 200) (ha : -9223372036854775808 ≤ a ∧ a ≤ 9223372036854775807) (hc : -9223372036854775808 ≤ c ∧ c ≤ 9223372036854775807) (h : ¬ (0 ≤ a ∧ 0 ≤ c ∧ a + c ≤ 8 * (s.size : Int))) :
    Calls Try.prog 7 #[.string s, .int .i64 a, .int .i64 c, .bool on] w fun e w' => e = .returned (.bool true) ∧ Below w.heap.size w w' := by
  have C := Lib.hid fun W => set_no s a c on W (by omega) ha hc h
  rcases (show a < 0 ∨ (0 ≤ a ∧ c < 0) ∨ (0 ≤ a ∧ 0 ≤ c ∧ 8 * (s.size : Int) < a) ∨ (0 ≤ a ∧ 0 ≤ c ∧ a ≤ 8 * (s.size : Int) ∧ 8 * (s.size : Int) - a < c) by omega) with h1 | ⟨h1, h2⟩ | ⟨h1, h2, h3⟩ | ⟨h1, h2, h3, h4⟩
  all_goals
    clear h
    go_enter Try.func7, Try.ntmps7
    go_wp2_with fail
    refine (shown_any _).mono ?_
    rintro e w1 ⟨rfl, hb⟩
    have H1 := Lib.hid hb; clear hb
    go_wp2_with fail
    refine (C.out _).mono ?_
    rintro e w2 ⟨rfl, hb⟩
    have H2 := Lib.hid (below_next H1.out (Nat.le_refl _) hb); clear hb H1
    go_wp2
    go_ret
    exact ⟨by simp, H2.out⟩
set_option maxRecDepth 100000 in
set_option maxHeartbeats 2000000 in
theorem others_yes (s : ByteArray) (a c : Nat) (on : Bool) (w : World) (hs : s.size ≤ 200) (h : a + c ≤ 8 * s.size) :
    Calls Try.prog 7 #[.string s, .int .i64 (a : Int), .int .i64 (c : Int), .bool on] w fun e w' => e = .returned (.bool true) ∧ Below w.heap.size w w' := by
  have C := Lib.hid fun W => set_yes s a c on W (by omega) h
  have HL := Lib.hid fun k => bt_stL s.data.toList a c k on (by rw [str_len]; exact h)
  obtain ⟨T, hT⟩ : ∃ T, bs (stL s.data.toList a on c) = T := ⟨_, rfl⟩
  have hTs : T.size ≤ s.size := by rw [← hT, bs_size, stL_length, str_len]; exact Nat.le_refl _
  have hTt : s.size ≤ T.size := by rw [← hT, bs_size, stL_length, str_len]; exact Nat.le_refl _
  rw [show stL s.data.toList a on c = T.data.toList by rw [← hT]; rfl] at HL
  rw [hT] at C
  clear hT
  have hq1 : ((T.size : Int) != (s.size : Int)) = false := by simp; omega
  have hq2 : (T.size != s.size) = false := by simp; omega
  go_enter Try.func7, Try.ntmps7
  go_wp2_with fail
  refine (shown_any _).mono ?_
  rintro e w1 ⟨rfl, hb⟩
  have H1 := Lib.hid hb; clear hb
  go_wp2_with fail
  refine (C.out _).mono ?_
  rintro e w2 ⟨rfl, hb⟩
  have H2 := Lib.hid (below_next H1.out (Nat.le_refl _) hb); clear hb H1
  go_wp2
  clear hq1 hq2
  go_loopw [12] (fun i wr => ∃ k : Nat, k ≤ 8 * s.size ∧ i = .int .i64 k ∧ Hid (Below w.heap.size w wr)) (fun i _ => 8 * s.size - (intOf i).toNat)
  case atStart => exact ⟨0, Nat.zero_le _, rfl, H2⟩
  case round =>
    clear H2
    obtain ⟨k, hk, rfl, HB⟩ := hrel
    by_cases hlt : k < 8 * s.size
    · have D1 := Lib.hid fun W => get_any T k W (by omega) (by omega)
      have D2 := Lib.hid fun W => get_any s k W (by omega) (by omega)
      rw [gb_nat] at D1 D2
      rw [HL.out k] at D1
      generalize bt s.data.toList k = was at *
      by_cases hin : a ≤ k ∧ k < a + c
      · rw [if_pos hin] at D1
        obtain ⟨hi1, hi2⟩ := hin
        have hq3 : (on != on) = false := by simp
        go_wp2_with fail
        refine (D1.out _).mono ?_
        rintro e w3 ⟨rfl, hb⟩
        have H3 := Lib.hid (below_next HB.out (Nat.le_refl _) hb); clear hb
        go_wp2_with fail
        refine (D2.out _).mono ?_
        rintro e w4 ⟨rfl, hb⟩
        have H4 := Lib.hid (below_next H3.out (Nat.le_refl _) hb); clear hb
        go_wp2
        go_roundw
        case rel => exact ⟨k + 1, by omega, by go_num, H4⟩
        case measure => simp [intOf]; omega
      · rw [if_neg hin] at D1
        have hq3 : (was != was) = false := by simp
        rcases (show k < a ∨ (a ≤ k ∧ a + c ≤ k) by omega) with h1 | ⟨h1, h2⟩
        all_goals
          clear hin
          go_wp2_with fail
          refine (D1.out _).mono ?_
          rintro e w3 ⟨rfl, hb⟩
          have H3 := Lib.hid (below_next HB.out (Nat.le_refl _) hb); clear hb
          go_wp2_with fail
          refine (D2.out _).mono ?_
          rintro e w4 ⟨rfl, hb⟩
          have H4 := Lib.hid (below_next H3.out (Nat.le_refl _) hb); clear hb
          go_wp2
          go_roundw
          case rel => exact ⟨k + 1, by omega, by go_num, H4⟩
          case measure => simp [intOf]; omega
    · go_wp2
      go_ret
      exact ⟨rfl, HB.out⟩
theorem others_any (s : ByteArray) (a c : Int) (on : Bool) (w : World) (ha : -9223372036854775808 ≤ a ∧ a ≤ 9223372036854775807) (hc : -9223372036854775808 ≤ c ∧ c ≤ 9223372036854775807) :
    Calls Try.prog 7 #[.string s, .int .i64 a, .int .i64 c, .bool on] w fun e w' => e = .returned (.bool true) ∧ Below w.heap.size w w' := by
  by_cases hs : s.size ≤ 200
  · by_cases h : 0 ≤ a ∧ 0 ≤ c ∧ a + c ≤ 8 * (s.size : Int)
    · obtain ⟨x, rfl⟩ := Int.eq_ofNat_of_zero_le h.1
      obtain ⟨y, rfl⟩ := Int.eq_ofNat_of_zero_le h.2.1
      exact others_yes s x y on w hs (by omega)
    · exact others_no s a c on w hs ha hc h
  · have hs1 : ¬ (s.size : Int) ≤ 200 := by omega
    go_enter Try.func7, Try.ntmps7
    go_wp2_with fail
    refine (shown_any _).mono ?_
    rintro e w1 ⟨rfl, hb⟩
    have H1 := Lib.hid hb; clear hb
    go_wp2
    go_ret
    exact ⟨rfl, H1.out⟩
end Go.Proofs.Ytlhhmdpfggefgaa
