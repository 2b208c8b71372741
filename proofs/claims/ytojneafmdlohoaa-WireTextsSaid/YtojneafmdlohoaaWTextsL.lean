/- WireTexts answers true for every three texts, and changes nothing that was there: the walk. -/
import Derived.Test.YtojneafmdlohoaaWNums
namespace Go.Proofs.Ytojneafmdlohoaa
open Go.RowKit

/-- Both readers of texts answer the same. -/
theorem both_text (s : ByteArray) (hs : s.size ≤ maxLen) : ∃ (X R : ByteArray) (b : Bool),
    Hid (∀ W, Calls Try.prog 22 #[.string s] W fun e w' => e = .returned (.tuple #[.string X, .string R, .bool b]) ∧ Below W.heap.size W w') ∧
    Hid (∀ W, Calls Try.prog 23 #[.string s] W fun e w' => e = .returned (.tuple #[.string X, .string R, .bool b]) ∧ Below W.heap.size W w') := by
  cases h : rdT s.data.toList with
  | none => exact ⟨_, _, _, fun W => toText_no W hs h, fun W => rtoText_no W hs h⟩
  | some p => exact ⟨_, _, _, fun W => toText_yes W hs h, fun W => rtoText_yes W hs h⟩

set_option maxRecDepth 100000 in
set_option maxHeartbeats 2000000 in
theorem texts_some (a b s : ByteArray) (w : World) (ha : a.size ≤ 3000) (hb : b.size ≤ 3000) (hs : s.size ≤ 3000) :
    Calls Try.prog 5 #[.string a, .string b, .string s] w fun e w' => e = .returned (.bool true) ∧ Below w.heap.size w w' := by
  obtain ⟨X, R, c, V1, V2⟩ := both_text s (by unfold maxLen; omega)
  have l1 := textL_len a (by omega)
  have l2 := textL_len b (by omega)
  have hadd := fun (W : World) => run_string_add_sum (P := Try.prog) W (bs (textL a.data.toList)) (bs (textL b.data.toList)) (by rw [bs_size, bs_size]; omega)
  rw [bs_cat] at hadd
  have G3 := Lib.hid fun W => text2 W a b (by omega) (by omega)
  have G4 := Lib.hid fun W => rtext_any a W (by omega)
  have G5 := Lib.hid fun W => rtext_any b W (by omega)
  generalize bs (textL a.data.toList) = Y at *
  generalize bs (textL b.data.toList) = Z at *
  generalize bs (textL a.data.toList ++ textL b.data.toList) = YZ at *
  clear l1 l2
  go_enter Try.func5, Try.ntmps5
  go_wp2_with fail
  refine (wshown_any _).mono ?_
  rintro e w1 ⟨rfl, hb1⟩
  have H1 := Lib.hid hb1; clear hb1
  go_wp2_with fail
  refine (V1.out _).mono ?_
  rintro e w4 ⟨rfl, hb1⟩
  have H4 := Lib.hid (below_next H1.out (Nat.le_refl _) hb1); clear hb1 H1
  go_wp2_with fail
  refine (V2.out _).mono ?_
  rintro e w5 ⟨rfl, hb1⟩
  have H5 := Lib.hid (below_next H4.out (Nat.le_refl _) hb1); clear hb1 H4
  go_wp2_with fail
  refine (G3.out _).mono ?_
  rintro e w8 ⟨rfl, hb1⟩
  have H8 := Lib.hid (below_next H5.out (Nat.le_refl _) hb1); clear hb1 H5
  go_wp2_with fail
  refine (G4.out _).mono ?_
  rintro e w9 ⟨rfl, hb1⟩
  have H9 := Lib.hid (below_next H8.out (Nat.le_refl _) hb1); clear hb1 H8
  go_wp2_with fail
  refine (G5.out _).mono ?_
  rintro e w10 ⟨rfl, hb1⟩
  have H10 := Lib.hid (below_next H9.out (Nat.le_refl _) hb1); clear hb1 H9
  go_wp2
  go_ret
  exact ⟨by simp, H10.out⟩

set_option maxRecDepth 100000 in
set_option maxHeartbeats 1000000 in
theorem texts_long (a b s : ByteArray) (w : World) (h : 3000 < a.size ∨ 3000 < b.size ∨ 3000 < s.size) :
    Calls Try.prog 5 #[.string a, .string b, .string s] w fun e w' => e = .returned (.bool true) ∧ Below w.heap.size w w' := by
  have hx : 3000 < a.size ∨ (a.size ≤ 3000 ∧ 3000 < b.size) ∨ (a.size ≤ 3000 ∧ b.size ≤ 3000 ∧ 3000 < s.size) := by omega
  clear h
  rcases hx with h | ⟨h, h'⟩ | ⟨h, h', h''⟩
  all_goals
    go_enter Try.func5, Try.ntmps5
    go_wp2_with fail
    refine (wshown_any _).mono ?_
    rintro e w1 ⟨rfl, hb1⟩
    have H1 := Lib.hid hb1; clear hb1
    go_wp2
    go_ret
    exact ⟨rfl, H1.out⟩

theorem texts_any (a b s : ByteArray) (w : World) :
    Calls Try.prog 5 #[.string a, .string b, .string s] w fun e w' => e = .returned (.bool true) ∧ Below w.heap.size w w' := by
  by_cases h : a.size ≤ 3000 ∧ b.size ≤ 3000 ∧ s.size ≤ 3000
  · exact texts_some a b s w h.1 h.2.1 h.2.2
  · exact texts_long a b s w (by omega)
end Go.Proofs.Ytojneafmdlohoaa
