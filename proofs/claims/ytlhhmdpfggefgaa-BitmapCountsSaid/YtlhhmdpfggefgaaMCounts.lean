/- BitmapCounts answers true for every texts and every number: the walk. -/
import Derived.Test.YtlhhmdpfggefgaaMBits
namespace Go.Proofs.Ytlhhmdpfggefgaa
open Go.RowKit

theorem fi_all (k : Nat) : fi k (8 * (k : Int)) = 8 * k := by unfold fi; omega
theorem fi_is (k : Nat) (n : Int) (j : Nat) : j < fi k n ↔ (j < 8 * k ∧ (j : Int) < n) := by unfold fi; omega
set_option maxRecDepth 100000 in
set_option maxHeartbeats 2000000 in
theorem counts_any (a b : ByteArray) (n : Int) (w : World) (hn : -9223372036854775808 ≤ n ∧ n ≤ 9223372036854775807) :
    Calls Try.prog 8 #[.string a, .string b, .int .i64 n] w fun e w' => e = .returned (.bool true) ∧ Below w.heap.size w w' := by
  by_cases hs : a.size ≤ 300 ∧ b.size ≤ 300
  · obtain ⟨ha, hb⟩ := hs
    have C1 := Lib.hid fun W => free_any a n W (by omega) hn
    have C2 := Lib.hid fun W => free_any a (8 * (a.size : Int)) W (by omega) (by omega)
    have C3 := Lib.hid fun W => free_any b (8 * (b.size : Int)) W (by omega) (by omega)
    have C4 := Lib.hid fun W => free_any (a ++ b) (8 * (a.size : Int) + 8 * (b.size : Int)) W (by rw [ByteArray.size_append]; omega) (by omega)
    have HE : Hid (fr (a ++ b).data.toList (fi (a ++ b).size (8 * (a.size : Int) + 8 * (b.size : Int))) = fr a.data.toList (8 * a.size) + fr b.data.toList (8 * b.size)) := by
      show _ = _
      have h1 := fr_append a.data.toList b.data.toList (8 * b.size)
      rw [str_len] at h1
      rw [← h1, show (a ++ b).data.toList = a.data.toList ++ b.data.toList by rw [ByteArray.data_append, Array.toList_append]]
      congr 1
      unfold fi
      rw [ByteArray.size_append]; omega
    rw [fi_all] at C2 C3
    rw [HE.out] at C4
    have hf1 := fr_le a.data.toList (8 * a.size)
    have hf2 := fr_le b.data.toList (8 * b.size)
    have HM := Lib.hid (fi_is a.size n)
    have hm := fi_le a.size n
    generalize fi a.size n = m at *
    generalize fr a.data.toList (8 * a.size) = x at *
    generalize fr b.data.toList (8 * b.size) = y at *
    clear HE
    go_enter Try.func8, Try.ntmps8
    go_wp2_with fail
    refine (shown_any _).mono ?_
    rintro e w1 ⟨rfl, hb1⟩
    have H1 := Lib.hid hb1; clear hb1
    go_wp2
    go_loopw [8, 9] (fun f i wr => ∃ k : Nat, k ≤ m ∧ i = .int .i64 k ∧ f = .int .i64 ((fr a.data.toList k : Nat) : Int) ∧ Hid (Below w.heap.size w wr)) (fun _ i _ => m - (intOf i).toNat)
    case atStart => exact ⟨0, Nat.zero_le _, rfl, rfl, H1⟩
    case round =>
      clear H1
      obtain ⟨k, hk, rfl, rfl, HB⟩ := hrel
      have hle := fr_le a.data.toList k
      by_cases hlt : k < m
      · obtain ⟨hx1, hx2⟩ := (HM.out k).1 hlt
        have HC1 := Lib.hid fun W => get_any a k W (by omega) (by omega)
        rw [gb_nat] at HC1
        have HS : Hid (fr a.data.toList (k + 1) = fr a.data.toList k + if bt a.data.toList k = true then 0 else 1) := rfl
        have hx3 : (k : Int) < 8 * (a.size : Int) := by omega
        cases hbt : bt a.data.toList k
        all_goals
          rw [hbt] at HC1 HS
          clear hbt
          go_wp2_with (go_at_call 14; refine (HC1.out _).mono ?_; rintro e w2 ⟨rfl, hb2⟩; have HB2 := Lib.hid (below_next HB.out (Nat.le_refl _) hb2); clear hb2)
          go_roundw
          case rel => exact ⟨k + 1, by omega, by go_num, by rw [HS.out]; first | rfl | go_num, HB2⟩
          case measure => simp [intOf]; omega
      · obtain rfl : k = m := by omega
        have hx := fun h => hlt ((HM.out k).2 h)
        generalize fr a.data.toList k = z at *
        have hq1 : (((z : Nat) : Int) == (z : Int)) = true := by simp
        have hq2 : ((((x + y : Nat) : Nat) : Int) == (x : Int) + (y : Int)) = true := by simp
        by_cases hx1 : k < 8 * a.size
        all_goals
          have hx2 : ¬ (k < 8 * a.size ∧ (k : Int) < n) := hx
          clear hx
          go_wp2_with fail
          refine (C4.out _).mono ?_
          rintro e w2 ⟨rfl, hb2⟩
          have H2 := Lib.hid (below_next HB.out (Nat.le_refl _) hb2); clear hb2
          go_wp2_with fail
          refine (C1.out _).mono ?_
          rintro e w3 ⟨rfl, hb2⟩
          have H3 := Lib.hid (below_next H2.out (Nat.le_refl _) hb2); clear hb2
          go_wp2_with fail
          refine (C2.out _).mono ?_
          rintro e w4 ⟨rfl, hb2⟩
          have H4 := Lib.hid (below_next H3.out (Nat.le_refl _) hb2); clear hb2
          go_wp2_with fail
          refine (C3.out _).mono ?_
          rintro e w5 ⟨rfl, hb2⟩
          have H5 := Lib.hid (below_next H4.out (Nat.le_refl _) hb2); clear hb2
          go_wp2
          go_ret
          exact ⟨by simp, H5.out⟩
  · rcases (show 300 < a.size ∨ (a.size ≤ 300 ∧ 300 < b.size) by omega) with h1 | ⟨h1, h2⟩
    all_goals
      clear hs
      go_enter Try.func8, Try.ntmps8
      go_wp2_with fail
      refine (shown_any _).mono ?_
      rintro e w1 ⟨rfl, hb⟩
      have H1 := Lib.hid hb; clear hb
      go_wp2
      go_ret
      exact ⟨rfl, H1.out⟩
end Go.Proofs.Ytlhhmdpfggefgaa
