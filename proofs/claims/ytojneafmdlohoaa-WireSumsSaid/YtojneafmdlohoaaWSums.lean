/- WireSums answers true for every three texts, and changes nothing that was there: the walk. -/
import Derived.Test.YtojneafmdlohoaaWShown
import Derived.Test.YtojneafmdlohoaaWCrcR
namespace Go.Proofs.Ytojneafmdlohoaa
open Go.RowKit

theorem cat_list (a b : ByteArray) : (a ++ b).data.toList = a.data.toList ++ b.data.toList := by rw [ByteArray.data_append, Array.toList_append]

set_option maxRecDepth 100000 in
set_option maxHeartbeats 2000000 in
theorem sums_some (a b c : ByteArray) (w : World) (ha : a.size ≤ 3000) (hb : b.size ≤ 3000) (hc : c.size ≤ 3000) :
    Calls Try.prog 3 #[.string a, .string b, .string c] w fun e w' => e = .returned (.bool true) ∧ Below w.heap.size w w' := by
  have hadd1 := fun (W : World) => run_string_add_sum (P := Try.prog) W a b (by omega)
  have hadd2 := fun (W : World) => run_string_add_sum (P := Try.prog) W (a ++ b) c (by rw [ByteArray.size_append]; omega)
  have hm : ∀ n : Nat, n ≤ 9000 → n ≤ maxLen := fun n h => by unfold maxLen; omega
  obtain ⟨X, hX⟩ : ∃ X, crcL (a.data.toList ++ b.data.toList ++ c.data.toList) = X := ⟨_, rfl⟩
  obtain ⟨Y, hY⟩ : ∃ Y, crcL a.data.toList = Y := ⟨_, rfl⟩
  obtain ⟨S, hS⟩ : ∃ S, a ++ b ++ c = S := ⟨_, rfl⟩
  have eS : crcL S.data.toList = X := by rw [← hS, cat_list, cat_list, hX]
  have hSs : S.size ≤ 9000 := by rw [← hS, ByteArray.size_append, ByteArray.size_append]; omega
  rw [hS] at hadd2
  have C1 := Lib.hid fun W => crc3 W a b c (hm _ (by omega)) (hm _ (by omega)) (hm _ (by omega))
  have C2 := Lib.hid fun W => rcrc_any S W (hm _ hSs)
  have C3 := Lib.hid fun W => crc1 W S (hm _ hSs)
  have C4 := Lib.hid fun W => crc1 W a (hm _ (by omega))
  have C5 := Lib.hid fun W => rcrc_any a W (hm _ (by omega))
  rw [hX] at C1
  rw [eS] at C2 C3
  rw [hY] at C4 C5
  clear hX hY hS eS hm
  go_enter Try.func3, Try.ntmps3
  go_wp2_with fail
  refine (wshown_any _).mono ?_
  rintro e w1 ⟨rfl, hb1⟩
  have H1 := Lib.hid hb1; clear hb1
  go_wp2_with fail
  refine (C1.out _).mono ?_
  rintro e w2 ⟨rfl, hb1⟩
  have H2 := Lib.hid (below_next H1.out (Nat.le_refl _) hb1); clear hb1 H1
  go_wp2_with fail
  refine (C2.out _).mono ?_
  rintro e w3 ⟨rfl, rfl⟩
  go_wp2_with fail
  refine (C3.out _).mono ?_
  rintro e w4 ⟨rfl, hb1⟩
  have H4 := Lib.hid (below_next H2.out (Nat.le_refl _) hb1); clear hb1 H2
  go_wp2_with fail
  refine (C1.out _).mono ?_
  rintro e w5 ⟨rfl, hb1⟩
  have H5 := Lib.hid (below_next H4.out (Nat.le_refl _) hb1); clear hb1 H4
  go_wp2_with fail
  refine (C4.out _).mono ?_
  rintro e w6 ⟨rfl, hb1⟩
  have H6 := Lib.hid (below_next H5.out (Nat.le_refl _) hb1); clear hb1 H5
  go_wp2_with fail
  refine (C5.out _).mono ?_
  rintro e w7 ⟨rfl, rfl⟩
  go_wp2
  go_ret
  exact ⟨rfl, H6.out⟩

set_option maxRecDepth 100000 in
set_option maxHeartbeats 1000000 in
theorem sums_long (a b c : ByteArray) (w : World) (h : 3000 < a.size ∨ 3000 < b.size ∨ 3000 < c.size) :
    Calls Try.prog 3 #[.string a, .string b, .string c] w fun e w' => e = .returned (.bool true) ∧ Below w.heap.size w w' := by
  have hx : 3000 < a.size ∨ (a.size ≤ 3000 ∧ 3000 < b.size) ∨ (a.size ≤ 3000 ∧ b.size ≤ 3000 ∧ 3000 < c.size) := by omega
  clear h
  rcases hx with h | ⟨h, h'⟩ | ⟨h, h', h''⟩
  all_goals
    go_enter Try.func3, Try.ntmps3
    go_wp2_with fail
    refine (wshown_any _).mono ?_
    rintro e w1 ⟨rfl, hb1⟩
    have H1 := Lib.hid hb1; clear hb1
    go_wp2
    go_ret
    exact ⟨rfl, H1.out⟩

theorem sums_any (a b c : ByteArray) (w : World) :
    Calls Try.prog 3 #[.string a, .string b, .string c] w fun e w' => e = .returned (.bool true) ∧ Below w.heap.size w w' := by
  by_cases h : a.size ≤ 3000 ∧ b.size ≤ 3000 ∧ c.size ≤ 3000
  · exact sums_some a b c w h.1 h.2.1 h.2.2
  · exact sums_long a b c w (by omega)
end Go.Proofs.Ytojneafmdlohoaa
