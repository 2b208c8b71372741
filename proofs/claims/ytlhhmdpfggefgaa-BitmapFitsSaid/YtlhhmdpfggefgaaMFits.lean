/- BitmapFits answers true for every text and every numbers: the walk. -/
import Derived.Test.YtlhhmdpfggefgaaMBits
namespace Go.Proofs.Ytlhhmdpfggefgaa
open Go.RowKit

set_option maxRecDepth 100000 in
set_option maxHeartbeats 2000000 in
theorem fits_any (s : ByteArray) (n c : Int) (w : World) (hn : -9223372036854775808 ≤ n ∧ n ≤ 9223372036854775807) (hc : -9223372036854775808 ≤ c ∧ c ≤ 9223372036854775807) :
    Calls Try.prog 4 #[.string s, .int .i64 n, .int .i64 c] w fun e w' => e = .returned (.bool true) ∧ Below w.heap.size w w' := by
  by_cases hs : s.size ≤ 1000
  · obtain ⟨k, r, HT⟩ := fitV_form (fit s.data.toList (fi s.size n) c.toNat)
    have C1 := Lib.hid fun W => fit_any s n c W (by omega) hn hc
    have C2 := Lib.hid fun W => rfit_any s n c W (by omega) hn hc
    have C3 := Lib.hid fun W => free_any s n W (by omega) hn
    have C4 := Lib.hid fun W => rfree_any s n W (by omega) hn
    have C5 := Lib.hid fun W => runs_any s n W (by omega) hn
    have C6 := Lib.hid fun W => rruns_any s n W (by omega) hn
    have hl : (rs s.data.toList (fi s.size n)).length ≤ 10000000 := by
      have h1 := rs_len s.data.toList (fi s.size n)
      have h2 := fi_le s.size n
      omega
    rw [HT.out] at C1 C2
    generalize rs s.data.toList (fi s.size n) = R at *
    generalize fr s.data.toList (fi s.size n) = f at *
    clear HT hn hc
    have h1 : (((k : Nat) : Int) == (k : Int)) = true := by simp
    have h2 : (((f : Nat) : Int) == (f : Int)) = true := by simp
    have h4 : (r == r) = true := by simp
    go_enter Try.func4, Try.ntmps4
    go_wp2_with fail
    refine (shown_any _).mono ?_
    rintro e w1 ⟨rfl, hb⟩
    have H1 := Lib.hid hb; clear hb
    go_wp2_with fail
    refine (C1.out _).mono ?_
    rintro e w2 ⟨rfl, hb⟩
    have H2 := Lib.hid (below_next H1.out (Nat.le_refl _) hb); clear hb H1
    go_wp2_with fail
    refine (C2.out _).mono ?_
    rintro e w3 ⟨rfl, hb⟩
    have H3 := Lib.hid (below_next H2.out (Nat.le_refl _) hb); clear hb H2
    go_wp2_with fail
    refine (C3.out _).mono ?_
    rintro e w4 ⟨rfl, hb⟩
    have H4 := Lib.hid (below_next H3.out (Nat.le_refl _) hb); clear hb H3
    go_wp2_with fail
    refine (C4.out _).mono ?_
    rintro e w5 ⟨rfl, rfl⟩
    go_wp2_with fail
    refine (C5.out _).mono ?_
    rintro e w6 ⟨v1, rfl, hsl1, hb⟩
    have H6 := Lib.hid (below_next H4.out (Nat.le_refl _) hb); clear hb H4
    have HS1 := Lib.hid hsl1; clear hsl1
    go_wp2_with fail
    refine (C6.out _).mono ?_
    rintro e w7 ⟨v2, rfl, hsl2, hb⟩
    have HS1b := Lib.hid (HS1.out.below hb); clear HS1
    have H7 := Lib.hid (below_next H6.out (Nat.le_refl _) hb); clear hb H6
    have HS2 := Lib.hid hsl2; clear hsl2
    go_wp2_with fail
    refine (same_yes _ _ R _ hl HS1b.out HS2.out).mono ?_
    rintro e w8 ⟨rfl, hb⟩
    have H8 := Lib.hid (below_next H7.out (Nat.le_refl _) hb); clear hb H7
    go_wp2
    go_ret
    exact ⟨by simp, H8.out⟩
  · have hs1 : ¬ (s.size : Int) ≤ 1000 := by omega
    go_enter Try.func4, Try.ntmps4
    go_wp2_with fail
    refine (shown_any _).mono ?_
    rintro e w1 ⟨rfl, hb⟩
    have H1 := Lib.hid hb; clear hb
    go_wp2
    go_ret
    exact ⟨rfl, H1.out⟩
end Go.Proofs.Ytlhhmdpfggefgaa
