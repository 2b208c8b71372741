/- BitmapBits answers true for every text and every numbers: the walk. -/
import Derived.Test.YtlhhmdpfggefgaaMShown
namespace Go.Proofs.Ytlhhmdpfggefgaa
open Go.RowKit

theorem setV_form (l : List UInt8) (a c : Int) (on : Bool) : ∃ T r, Hid (setV l a c on = .tuple #[.string T, .bool r]) := by
  by_cases h : 0 ≤ a ∧ 0 ≤ c ∧ a + c ≤ 8 * (l.length : Int)
  · exact ⟨bs (stL l a.toNat on c.toNat), true, if_pos h⟩
  · exact ⟨⟨#[]⟩, false, if_neg h⟩
theorem fitV_form (o : Option Nat) : ∃ (k : Nat) (r : Bool), Hid (fitV o = .tuple #[.int .i64 (k : Int), .bool r]) := ⟨_, _, rfl⟩

set_option maxRecDepth 100000 in
set_option maxHeartbeats 2000000 in
theorem bits_any (s : ByteArray) (n i a c : Int) (on : Bool) (w : World) (hn : -9223372036854775808 ≤ n ∧ n ≤ 9223372036854775807) (hi : -9223372036854775808 ≤ i ∧ i ≤ 9223372036854775807) (ha : -9223372036854775808 ≤ a ∧ a ≤ 9223372036854775807) (hc : -9223372036854775808 ≤ c ∧ c ≤ 9223372036854775807) :
    Calls Try.prog 3 #[.string s, .int .i64 n, .int .i64 i, .int .i64 a, .int .i64 c, .bool on] w fun e w' => e = .returned (.bool true) ∧ Below w.heap.size w w' := by
  by_cases hs : s.size ≤ 1000
  · obtain ⟨T, r, HT⟩ := setV_form s.data.toList a c on
    have C1 := Lib.hid fun W => set_any s a c on W (by omega) ha hc
    have C2 := Lib.hid fun W => rset_any s a c on W (by omega) ha hc
    have C3 := Lib.hid fun W => make_any n W hn
    have C4 := Lib.hid fun W => rmake_any n W hn
    have C5 := Lib.hid fun W => get_any s i W (by omega) hi
    have C6 := Lib.hid fun W => rget_any s i W (by omega) hi
    rw [HT.out] at C1 C2
    generalize makeS n = M at *
    generalize gb s.data.toList i = g at *
    clear HT hn hi ha hc
    have h1 : (M.toList == M.toList) = true := by simp
    have h2 : (g == g) = true := by simp
    have h3 : (T.toList == T.toList) = true := by simp
    have h4 : (r == r) = true := by simp
    go_enter Try.func3, Try.ntmps3
    go_wp2_with fail
    refine (shown_any _).mono ?_
    rintro e w1 ⟨rfl, hb⟩
    have H1 := Lib.hid hb; clear hb
    go_wp2_with fail
    refine (C1.out _).mono ?_
    rintro e w2 ⟨rfl, hb⟩
    have H2 := Lib.hid (below_next H1.out (Nat.le_refl _) hb); clear hb H1
    go_wp2_with fail
    refine (C2.out _).mono ?_
    rintro e w3 ⟨rfl, hb⟩
    have H3 := Lib.hid (below_next H2.out (Nat.le_refl _) hb); clear hb H2
    go_wp2_with fail
    refine (C3.out _).mono ?_
    rintro e w4 ⟨rfl, hb⟩
    have H4 := Lib.hid (below_next H3.out (Nat.le_refl _) hb); clear hb H3
    go_wp2_with fail
    refine (C4.out _).mono ?_
    rintro e w5 ⟨rfl, hb⟩
    have H5 := Lib.hid (below_next H4.out (Nat.le_refl _) hb); clear hb H4
    go_wp2_with fail
    refine (C5.out _).mono ?_
    rintro e w6 ⟨rfl, hb⟩
    have H6 := Lib.hid (below_next H5.out (Nat.le_refl _) hb); clear hb H5
    go_wp2_with fail
    refine (C6.out _).mono ?_
    rintro e w7 ⟨rfl, rfl⟩
    go_wp2
    go_ret
    exact ⟨by simp, H6.out⟩
  · have hs1 : ¬ (s.size : Int) ≤ 1000 := by omega
    go_enter Try.func3, Try.ntmps3
    go_wp2_with fail
    refine (shown_any _).mono ?_
    rintro e w1 ⟨rfl, hb⟩
    have H1 := Lib.hid hb; clear hb
    go_wp2
    go_ret
    exact ⟨rfl, H1.out⟩
end Go.Proofs.Ytlhhmdpfggefgaa
