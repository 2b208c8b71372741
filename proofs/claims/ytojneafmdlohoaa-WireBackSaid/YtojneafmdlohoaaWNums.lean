/- WireNumbers answers true for every three numbers and every text, and changes nothing that was there: the walk. -/
import Derived.Test.YtojneafmdlohoaaWShown
namespace Go.Proofs.Ytojneafmdlohoaa
open Go.RowKit

/-- Both readers of four bytes answer the same. -/
theorem both_fixed (s : ByteArray) (hs : s.size ≤ maxLen) : ∃ (x : Int) (R : ByteArray) (b : Bool),
    Hid (∀ W, Calls Try.prog 14 #[.string s] W fun e w' => e = .returned (.tuple #[.int .u32 x, .string R, .bool b]) ∧ Below W.heap.size W w') ∧
    Hid (∀ W, Calls Try.prog 15 #[.string s] W fun e w' => e = .returned (.tuple #[.int .u32 x, .string R, .bool b]) ∧ Below W.heap.size W w') := by
  by_cases h : 4 ≤ s.size
  · exact ⟨_, _, _, fun W => toFixed_some s W h hs, fun W => rtoFixed_some s W h hs⟩
  · exact ⟨_, _, _, fun W => toFixed_none s W (by omega), fun W => rtoFixed_none s W (by omega)⟩
/-- Both readers of numbers answer the same. -/
theorem both_var (s : ByteArray) (hs : s.size ≤ maxLen) : ∃ (x : Int) (R : ByteArray) (b : Bool),
    Hid (∀ W, Calls Try.prog 16 #[.string s] W fun e w' => e = .returned (.tuple #[.int .u64 x, .string R, .bool b]) ∧ Below W.heap.size W w') ∧
    Hid (∀ W, Calls Try.prog 17 #[.string s] W fun e w' => e = .returned (.tuple #[.int .u64 x, .string R, .bool b]) ∧ Below W.heap.size W w') := by
  cases h : rdV s.data.toList with
  | none => exact ⟨_, _, _, fun W => toVar_no W hs h, fun W => rtoVar_no W hs h⟩
  | some p => exact ⟨_, _, _, fun W => toVar_yes W hs h, fun W => rtoVar_yes W hs h⟩
theorem bs_cat (l m : List UInt8) : bs l ++ bs m = bs (l ++ m) := by
  apply ByteArray.ext
  rw [ByteArray.data_append]
  unfold bs
  simp

set_option maxRecDepth 100000 in
set_option maxHeartbeats 2000000 in
theorem numbers_some (f v u : Nat) (s : ByteArray) (w : World) (hf : f < 4294967296) (hv : v < 18446744073709551616) (hu : u < 18446744073709551616) (hs : s.size ≤ 3000) :
    Calls Try.prog 4 #[.int .u32 (f : Int), .int .u64 (v : Int), .int .u64 (u : Int), .string s] w fun e w' => e = .returned (.bool true) ∧ Below w.heap.size w w' := by
  obtain ⟨x, R, b, F1, F2⟩ := both_fixed s (by unfold maxLen; omega)
  obtain ⟨y, T, c, V1, V2⟩ := both_var s (by unfold maxLen; omega)
  have l1 := varL_ten v hv
  have l2 := varL_ten u hu
  have hadd := fun (W : World) => run_string_add_sum (P := Try.prog) W (bs (varL v)) (bs (varL u)) (by rw [bs_size, bs_size]; omega)
  rw [bs_cat] at hadd
  have G1 := Lib.hid fun W => fixed_any f W hf
  have G2 := Lib.hid fun W => rfixed_any f W hf
  have G3 := Lib.hid fun W => var2 W v u hv hu
  have G4 := Lib.hid fun W => rvar_any v W hv
  have G5 := Lib.hid fun W => rvar_any u W hu
  generalize bs (fixL f) = X at *
  generalize bs (varL v) = Y at *
  generalize bs (varL u) = Z at *
  generalize bs (varL v ++ varL u) = YZ at *
  clear l1 l2 hf hv hu
  go_enter Try.func4, Try.ntmps4
  go_wp2_with fail
  refine (wshown_any _).mono ?_
  rintro e w1 ⟨rfl, hb1⟩
  have H1 := Lib.hid hb1; clear hb1
  go_wp2_with fail
  refine (F1.out _).mono ?_
  rintro e w2 ⟨rfl, hb1⟩
  have H2 := Lib.hid (below_next H1.out (Nat.le_refl _) hb1); clear hb1 H1
  go_wp2_with fail
  refine (F2.out _).mono ?_
  rintro e w3 ⟨rfl, hb1⟩
  have H3 := Lib.hid (below_next H2.out (Nat.le_refl _) hb1); clear hb1 H2
  go_wp2_with fail
  refine (V1.out _).mono ?_
  rintro e w4 ⟨rfl, hb1⟩
  have H4 := Lib.hid (below_next H3.out (Nat.le_refl _) hb1); clear hb1 H3
  go_wp2_with fail
  refine (V2.out _).mono ?_
  rintro e w5 ⟨rfl, hb1⟩
  have H5 := Lib.hid (below_next H4.out (Nat.le_refl _) hb1); clear hb1 H4
  go_wp2_with fail
  refine (G1.out _).mono ?_
  rintro e w6 ⟨rfl, hb1⟩
  have H6 := Lib.hid (below_next H5.out (Nat.le_refl _) hb1); clear hb1 H5
  go_wp2_with fail
  refine (G2.out _).mono ?_
  rintro e w7 ⟨rfl, hb1⟩
  have H7 := Lib.hid (below_next H6.out (Nat.le_refl _) hb1); clear hb1 H6
  go_wp2_with fail
  refine (G3.out _).mono ?_
  rintro e w8 ⟨rfl, hb1⟩
  have H8 := Lib.hid (below_next H7.out (Nat.le_refl _) hb1); clear hb1 H7
  go_wp2_with fail
  refine (G4.out _).mono ?_
  rintro e w9 ⟨rfl, hb1⟩
  have H9 := Lib.hid (below_next H8.out (Nat.le_refl _) hb1); clear hb1 H8
  go_wp2_with fail
  refine (G5.out _).mono ?_
  rintro e w10 ⟨rfl, hb1⟩
  have H10 := Lib.hid (below_next H9.out (Nat.le_refl _) hb1); clear hb1 H9
  go_wp2
  go_ret
  exact ⟨by simp, H10.out⟩

set_option maxRecDepth 100000 in
set_option maxHeartbeats 1000000 in
theorem numbers_long (f v u : Nat) (s : ByteArray) (w : World) (h : 3000 < s.size) :
    Calls Try.prog 4 #[.int .u32 (f : Int), .int .u64 (v : Int), .int .u64 (u : Int), .string s] w fun e w' => e = .returned (.bool true) ∧ Below w.heap.size w w' := by
  go_enter Try.func4, Try.ntmps4
  go_wp2_with fail
  refine (wshown_any _).mono ?_
  rintro e w1 ⟨rfl, hb1⟩
  have H1 := Lib.hid hb1; clear hb1
  go_wp2
  go_ret
  exact ⟨rfl, H1.out⟩

theorem numbers_any (f v u : Nat) (s : ByteArray) (w : World) (hf : f < 4294967296) (hv : v < 18446744073709551616) (hu : u < 18446744073709551616) :
    Calls Try.prog 4 #[.int .u32 (f : Int), .int .u64 (v : Int), .int .u64 (u : Int), .string s] w fun e w' => e = .returned (.bool true) ∧ Below w.heap.size w w' := by
  by_cases h : s.size ≤ 3000
  · exact numbers_some f v u s w hf hv hu h
  · exact numbers_long f v u s w (by omega)
end Go.Proofs.Ytojneafmdlohoaa
