/- WireBack answers true for every two numbers and every two texts, and changes nothing that was there: the walk. -/
import Derived.Test.YtojneafmdlohoaaWNums
namespace Go.Proofs.Ytojneafmdlohoaa
open Go.RowKit

theorem bs_list (l : List UInt8) : (bs l).data.toList = l := rfl
theorem cat_list' (l : List UInt8) (s : ByteArray) : (bs l ++ s).data.toList = l ++ s.data.toList := by rw [ByteArray.data_append, Array.toList_append]; rfl
theorem cat_bs (l m : List UInt8) (s : ByteArray) (h : l ++ m = s.data.toList) : bs l ++ bs m = s := by rw [bs_cat, h, bs_self]
theorem byte_at (l : List UInt8) (s : ByteArray) (i : Nat) (h : i < l.length) (h2 : i < (bs l ++ s).size) : (bs l ++ s)[i] = l[i] := by
  have e : (bs l ++ s).data.toList[i]'(by simpa using h2) = (l ++ s.data.toList)[i]'(by simp; omega) := by congr 1
  rw [getB _ i h2] at e
  rw [e, List.getElem_append_left h]
theorem fix_back (f : Nat) (s : ByteArray) (hf : f < 4294967296) (hs : s.size ≤ 3000) (W : World) :
    Calls Try.prog 14 #[.string (bs (fixL f) ++ s)] W fun e w' => e = .returned (.tuple #[.int .u32 (f : Int), .string s, .bool true]) ∧ Below W.heap.size W w' := by
  have hz : (bs (fixL f) ++ s).size = 4 + s.size := by rw [ByteArray.size_append, bs_size]; rfl
  refine (toFixed_some (bs (fixL f) ++ s) W (by omega) (by unfold maxLen; omega)).mono fun e w' ⟨he, hb⟩ => ⟨?_, hb⟩
  rw [he, ext_drop, cat_list', byte_at _ s 0 (by simp [fixL]), byte_at _ s 1 (by simp [fixL]), byte_at _ s 2 (by simp [fixL]), byte_at _ s 3 (by simp [fixL])]
  rw [show (fixL f ++ s.data.toList).drop 4 = s.data.toList from rfl, bs_self]
  exact tup3 _ _ _ (congrArg (fun n : Nat => (n : Int)) (unfix_fixL f hf))
theorem var_back (v : Nat) (s : ByteArray) (hv : v < 18446744073709551616) (hs : s.size ≤ 3000) (W : World) :
    Calls Try.prog 16 #[.string (bs (varL v) ++ s)] W fun e w' => e = .returned (.tuple #[.int .u64 (v : Int), .string s, .bool true]) ∧ Below W.heap.size W w' := by
  have h10 := varL_ten v hv
  have h := toVar_yes (s := bs (varL v) ++ s) (v := v) (r := s.data.toList) W (by rw [ByteArray.size_append, bs_size]; unfold maxLen; omega) (by rw [cat_list', rdV_varL v _ hv])
  rw [bs_self] at h
  exact h
theorem text_back (t s : ByteArray) (ht : t.size ≤ 3000) (hs : s.size ≤ 3000) (W : World) :
    Calls Try.prog 22 #[.string (bs (textL t.data.toList) ++ s)] W fun e w' => e = .returned (.tuple #[.string t, .string s, .bool true]) ∧ Below W.heap.size W w' := by
  have hl := textL_len t (by omega)
  have h := toText_yes (s := bs (textL t.data.toList) ++ s) (t := t.data.toList) (r := s.data.toList) W (by rw [ByteArray.size_append, bs_size]; unfold maxLen; omega) (by rw [cat_list', rdT_textL _ _ (by rw [str_len]; omega)])
  rw [bs_self, bs_self] at h
  exact h

set_option maxRecDepth 100000 in
set_option maxHeartbeats 2000000 in
theorem back_none (f v : Nat) (t s : ByteArray) (w : World) (hf : f < 4294967296) (hv : v < 18446744073709551616) (ht : t.size ≤ 3000) (hs : s.size ≤ 3000) (h : rdV s.data.toList = none) :
    Calls Try.prog 6 #[.int .u32 (f : Int), .int .u64 (v : Int), .string t, .string s] w fun e w' => e = .returned (.bool true) ∧ Below w.heap.size w w' := by
  have l1 := varL_ten v hv
  have l2 := textL_len t (by omega)
  have hadd1 := fun (W : World) => run_string_add_sum (P := Try.prog) W (bs (fixL f)) s (by rw [bs_size]; have : (fixL f).length = 4 := rfl; omega)
  have hadd2 := fun (W : World) => run_string_add_sum (P := Try.prog) W (bs (varL v)) s (by rw [bs_size]; omega)
  have hadd3 := fun (W : World) => run_string_add_sum (P := Try.prog) W (bs (textL t.data.toList)) s (by rw [bs_size]; omega)
  have G1 := Lib.hid fun W => fixed_any f W hf
  have F1 := Lib.hid fun W => fix_back f s hf hs W
  have G2 := Lib.hid fun W => var_one v hv W
  have F2 := Lib.hid fun W => var_back v s hv hs W
  have G3 := Lib.hid fun W => text1 W t (by omega)
  have F3 := Lib.hid fun W => text_back t s ht hs W
  have K1 := Lib.hid fun W => toVar_no (s := s) W (by unfold maxLen; omega) h
  have K2 := Lib.hid fun W => toText_no (s := s) W (by unfold maxLen; omega) (by unfold rdT; rw [h])
  clear h
  generalize bs (fixL f) ++ s = X1 at *
  generalize bs (fixL f) = X at *
  generalize bs (varL v) ++ s = Y1 at *
  generalize bs (varL v) = Y at *
  generalize bs (textL t.data.toList) ++ s = Z1 at *
  generalize bs (textL t.data.toList) = Z at *
  clear l1 l2 hf hv
  go_enter Try.func6, Try.ntmps6
  go_wp2_with fail
  refine (wshown_any _).mono ?_
  rintro e w1 ⟨rfl, hb1⟩
  have H1 := Lib.hid hb1; clear hb1
  go_wp2_with fail
  refine (G1.out _).mono ?_
  rintro e w2 ⟨rfl, hb1⟩
  have H2 := Lib.hid (below_next H1.out (Nat.le_refl _) hb1); clear hb1 H1
  go_wp2_with fail
  refine (F1.out _).mono ?_
  rintro e w3 ⟨rfl, hb1⟩
  have H3 := Lib.hid (below_next H2.out (Nat.le_refl _) hb1); clear hb1 H2
  go_wp2_with fail
  refine (G2.out _).mono ?_
  rintro e w4 ⟨rfl, hb1⟩
  have H4 := Lib.hid (below_next H3.out (Nat.le_refl _) hb1); clear hb1 H3
  go_wp2_with fail
  refine (F2.out _).mono ?_
  rintro e w5 ⟨rfl, hb1⟩
  have H5 := Lib.hid (below_next H4.out (Nat.le_refl _) hb1); clear hb1 H4
  go_wp2_with fail
  refine (G3.out _).mono ?_
  rintro e w6 ⟨rfl, hb1⟩
  have H6 := Lib.hid (below_next H5.out (Nat.le_refl _) hb1); clear hb1 H5
  go_wp2_with fail
  refine (F3.out _).mono ?_
  rintro e w7 ⟨rfl, hb1⟩
  have H7 := Lib.hid (below_next H6.out (Nat.le_refl _) hb1); clear hb1 H6
  go_wp2_with fail
  refine (K1.out _).mono ?_
  rintro e w8 ⟨rfl, hb1⟩
  have H8 := Lib.hid (below_next H7.out (Nat.le_refl _) hb1); clear hb1 H7
  go_wp2_with fail
  refine (K2.out _).mono ?_
  rintro e w9 ⟨rfl, hb1⟩
  have H9 := Lib.hid (below_next H8.out (Nat.le_refl _) hb1); clear hb1 H8
  go_wp2
  go_ret
  exact ⟨by simp, H9.out⟩

set_option maxRecDepth 100000 in
set_option maxHeartbeats 2000000 in
theorem back_num (f v : Nat) (t s : ByteArray) (w : World) (hf : f < 4294967296) (hv : v < 18446744073709551616) (ht : t.size ≤ 3000) (hs : s.size ≤ 3000) (x : Nat) (r : List UInt8) (h : rdV s.data.toList = some (x, r)) (h2 : rdT s.data.toList = none) :
    Calls Try.prog 6 #[.int .u32 (f : Int), .int .u64 (v : Int), .string t, .string s] w fun e w' => e = .returned (.bool true) ∧ Below w.heap.size w w' := by
  have l1 := varL_ten v hv
  have l2 := textL_len t (by omega)
  have hadd1 := fun (W : World) => run_string_add_sum (P := Try.prog) W (bs (fixL f)) s (by rw [bs_size]; have : (fixL f).length = 4 := rfl; omega)
  have hadd2 := fun (W : World) => run_string_add_sum (P := Try.prog) W (bs (varL v)) s (by rw [bs_size]; omega)
  have hadd3 := fun (W : World) => run_string_add_sum (P := Try.prog) W (bs (textL t.data.toList)) s (by rw [bs_size]; omega)
  have G1 := Lib.hid fun W => fixed_any f W hf
  have F1 := Lib.hid fun W => fix_back f s hf hs W
  have G2 := Lib.hid fun W => var_one v hv W
  have F2 := Lib.hid fun W => var_back v s hv hs W
  have G3 := Lib.hid fun W => text1 W t (by omega)
  have F3 := Lib.hid fun W => text_back t s ht hs W
  have K1 := Lib.hid fun W => toVar_yes (s := s) W (by unfold maxLen; omega) h
  have hx := rdV_some h
  have hx10 := varL_ten x hx.2.1
  have hrl := rest_le h
  rw [str_len] at hrl
  have K2 := Lib.hid fun W => var_one x hx.2.1 W
  have hadd4 := fun (W : World) => run_string_add_sum (P := Try.prog) W (bs (varL x)) (bs r) (by rw [bs_size, bs_size]; omega)
  rw [cat_bs _ _ s hx.1] at hadd4
  have K3 := Lib.hid fun W => toText_no (s := s) W (by unfold maxLen; omega) h2
  clear h h2 hx hx10 hrl
  generalize bs (varL x) = X2 at *
  generalize bs r = R2 at *
  generalize bs (fixL f) ++ s = X1 at *
  generalize bs (fixL f) = X at *
  generalize bs (varL v) ++ s = Y1 at *
  generalize bs (varL v) = Y at *
  generalize bs (textL t.data.toList) ++ s = Z1 at *
  generalize bs (textL t.data.toList) = Z at *
  clear l1 l2 hf hv
  go_enter Try.func6, Try.ntmps6
  go_wp2_with fail
  refine (wshown_any _).mono ?_
  rintro e w1 ⟨rfl, hb1⟩
  have H1 := Lib.hid hb1; clear hb1
  go_wp2_with fail
  refine (G1.out _).mono ?_
  rintro e w2 ⟨rfl, hb1⟩
  have H2 := Lib.hid (below_next H1.out (Nat.le_refl _) hb1); clear hb1 H1
  go_wp2_with fail
  refine (F1.out _).mono ?_
  rintro e w3 ⟨rfl, hb1⟩
  have H3 := Lib.hid (below_next H2.out (Nat.le_refl _) hb1); clear hb1 H2
  go_wp2_with fail
  refine (G2.out _).mono ?_
  rintro e w4 ⟨rfl, hb1⟩
  have H4 := Lib.hid (below_next H3.out (Nat.le_refl _) hb1); clear hb1 H3
  go_wp2_with fail
  refine (F2.out _).mono ?_
  rintro e w5 ⟨rfl, hb1⟩
  have H5 := Lib.hid (below_next H4.out (Nat.le_refl _) hb1); clear hb1 H4
  go_wp2_with fail
  refine (G3.out _).mono ?_
  rintro e w6 ⟨rfl, hb1⟩
  have H6 := Lib.hid (below_next H5.out (Nat.le_refl _) hb1); clear hb1 H5
  go_wp2_with fail
  refine (F3.out _).mono ?_
  rintro e w7 ⟨rfl, hb1⟩
  have H7 := Lib.hid (below_next H6.out (Nat.le_refl _) hb1); clear hb1 H6
  go_wp2_with fail
  refine (K1.out _).mono ?_
  rintro e w8 ⟨rfl, hb1⟩
  have H8 := Lib.hid (below_next H7.out (Nat.le_refl _) hb1); clear hb1 H7
  go_wp2_with fail
  refine (K2.out _).mono ?_
  rintro e w9 ⟨rfl, hb1⟩
  have H9 := Lib.hid (below_next H8.out (Nat.le_refl _) hb1); clear hb1 H8
  go_wp2_with fail
  refine (K3.out _).mono ?_
  rintro e w10 ⟨rfl, hb1⟩
  have H10 := Lib.hid (below_next H9.out (Nat.le_refl _) hb1); clear hb1 H9
  go_wp2
  go_ret
  exact ⟨by simp, H10.out⟩

set_option maxRecDepth 100000 in
set_option maxHeartbeats 2000000 in
theorem back_text (f v : Nat) (t s : ByteArray) (w : World) (hf : f < 4294967296) (hv : v < 18446744073709551616) (ht : t.size ≤ 3000) (hs : s.size ≤ 3000) (x : Nat) (r y q : List UInt8) (h : rdV s.data.toList = some (x, r)) (h2 : rdT s.data.toList = some (y, q)) :
    Calls Try.prog 6 #[.int .u32 (f : Int), .int .u64 (v : Int), .string t, .string s] w fun e w' => e = .returned (.bool true) ∧ Below w.heap.size w w' := by
  have l1 := varL_ten v hv
  have l2 := textL_len t (by omega)
  have hadd1 := fun (W : World) => run_string_add_sum (P := Try.prog) W (bs (fixL f)) s (by rw [bs_size]; have : (fixL f).length = 4 := rfl; omega)
  have hadd2 := fun (W : World) => run_string_add_sum (P := Try.prog) W (bs (varL v)) s (by rw [bs_size]; omega)
  have hadd3 := fun (W : World) => run_string_add_sum (P := Try.prog) W (bs (textL t.data.toList)) s (by rw [bs_size]; omega)
  have G1 := Lib.hid fun W => fixed_any f W hf
  have F1 := Lib.hid fun W => fix_back f s hf hs W
  have G2 := Lib.hid fun W => var_one v hv W
  have F2 := Lib.hid fun W => var_back v s hv hs W
  have G3 := Lib.hid fun W => text1 W t (by omega)
  have F3 := Lib.hid fun W => text_back t s ht hs W
  have K1 := Lib.hid fun W => toVar_yes (s := s) W (by unfold maxLen; omega) h
  have hx := rdV_some h
  have hx10 := varL_ten x hx.2.1
  have hrl := rest_le h
  rw [str_len] at hrl
  have K2 := Lib.hid fun W => var_one x hx.2.1 W
  have hadd4 := fun (W : World) => run_string_add_sum (P := Try.prog) W (bs (varL x)) (bs r) (by rw [bs_size, bs_size]; omega)
  rw [cat_bs _ _ s hx.1] at hadd4
  have K3 := Lib.hid fun W => toText_yes (s := s) W (by unfold maxLen; omega) h2
  have hy := rdT_some h2
  have hyl : (textL y).length + q.length = s.size := by have := congrArg List.length hy; rw [List.length_append, str_len] at this; exact this
  have hy2 : y.length ≤ (textL y).length := by unfold textL; rw [List.length_append]; omega
  have K4 := Lib.hid fun W => text1 W (bs y) (by rw [bs_size]; omega)
  rw [bs_list] at K4
  have hadd5 := fun (W : World) => run_string_add_sum (P := Try.prog) W (bs (textL y)) (bs q) (by rw [bs_size, bs_size]; omega)
  rw [cat_bs _ _ s hy] at hadd5
  clear h h2 hx hx10 hrl hy hyl hy2
  generalize bs (varL x) = X2 at *
  generalize bs r = R2 at *
  generalize bs (textL y) = Y2 at *
  generalize bs y = Y3 at *
  generalize bs q = Q2 at *
  generalize bs (fixL f) ++ s = X1 at *
  generalize bs (fixL f) = X at *
  generalize bs (varL v) ++ s = Y1 at *
  generalize bs (varL v) = Y at *
  generalize bs (textL t.data.toList) ++ s = Z1 at *
  generalize bs (textL t.data.toList) = Z at *
  clear l1 l2 hf hv
  go_enter Try.func6, Try.ntmps6
  go_wp2_with fail
  refine (wshown_any _).mono ?_
  rintro e w1 ⟨rfl, hb1⟩
  have H1 := Lib.hid hb1; clear hb1
  go_wp2_with fail
  refine (G1.out _).mono ?_
  rintro e w2 ⟨rfl, hb1⟩
  have H2 := Lib.hid (below_next H1.out (Nat.le_refl _) hb1); clear hb1 H1
  go_wp2_with fail
  refine (F1.out _).mono ?_
  rintro e w3 ⟨rfl, hb1⟩
  have H3 := Lib.hid (below_next H2.out (Nat.le_refl _) hb1); clear hb1 H2
  go_wp2_with fail
  refine (G2.out _).mono ?_
  rintro e w4 ⟨rfl, hb1⟩
  have H4 := Lib.hid (below_next H3.out (Nat.le_refl _) hb1); clear hb1 H3
  go_wp2_with fail
  refine (F2.out _).mono ?_
  rintro e w5 ⟨rfl, hb1⟩
  have H5 := Lib.hid (below_next H4.out (Nat.le_refl _) hb1); clear hb1 H4
  go_wp2_with fail
  refine (G3.out _).mono ?_
  rintro e w6 ⟨rfl, hb1⟩
  have H6 := Lib.hid (below_next H5.out (Nat.le_refl _) hb1); clear hb1 H5
  go_wp2_with fail
  refine (F3.out _).mono ?_
  rintro e w7 ⟨rfl, hb1⟩
  have H7 := Lib.hid (below_next H6.out (Nat.le_refl _) hb1); clear hb1 H6
  go_wp2_with fail
  refine (K1.out _).mono ?_
  rintro e w8 ⟨rfl, hb1⟩
  have H8 := Lib.hid (below_next H7.out (Nat.le_refl _) hb1); clear hb1 H7
  go_wp2_with fail
  refine (K2.out _).mono ?_
  rintro e w9 ⟨rfl, hb1⟩
  have H9 := Lib.hid (below_next H8.out (Nat.le_refl _) hb1); clear hb1 H8
  go_wp2_with fail
  refine (K3.out _).mono ?_
  rintro e w10 ⟨rfl, hb1⟩
  have H10 := Lib.hid (below_next H9.out (Nat.le_refl _) hb1); clear hb1 H9
  go_wp2_with fail
  refine (K4.out _).mono ?_
  rintro e w11 ⟨rfl, hb1⟩
  have H11 := Lib.hid (below_next H10.out (Nat.le_refl _) hb1); clear hb1 H10
  go_wp2
  go_ret
  exact ⟨by simp, H11.out⟩

set_option maxRecDepth 100000 in
set_option maxHeartbeats 1000000 in
theorem back_long (f v : Nat) (t s : ByteArray) (w : World) (h : 3000 < t.size ∨ 3000 < s.size) :
    Calls Try.prog 6 #[.int .u32 (f : Int), .int .u64 (v : Int), .string t, .string s] w fun e w' => e = .returned (.bool true) ∧ Below w.heap.size w w' := by
  have hx : 3000 < t.size ∨ (t.size ≤ 3000 ∧ 3000 < s.size) := by omega
  clear h
  rcases hx with h | ⟨h, h'⟩
  all_goals
    go_enter Try.func6, Try.ntmps6
    go_wp2_with fail
    refine (wshown_any _).mono ?_
    rintro e w1 ⟨rfl, hb1⟩
    have H1 := Lib.hid hb1; clear hb1
    go_wp2
    go_ret
    exact ⟨rfl, H1.out⟩

theorem back_any (f v : Nat) (t s : ByteArray) (w : World) (hf : f < 4294967296) (hv : v < 18446744073709551616) :
    Calls Try.prog 6 #[.int .u32 (f : Int), .int .u64 (v : Int), .string t, .string s] w fun e w' => e = .returned (.bool true) ∧ Below w.heap.size w w' := by
  by_cases h : t.size ≤ 3000 ∧ s.size ≤ 3000
  · cases hr : rdV s.data.toList with
    | none => exact back_none f v t s w hf hv h.1 h.2 hr
    | some p =>
      obtain ⟨x, r⟩ := p
      cases ht : rdT s.data.toList with
      | none => exact back_num f v t s w hf hv h.1 h.2 x r hr ht
      | some q =>
        obtain ⟨y, q⟩ := q
        exact back_text f v t s w hf hv h.1 h.2 x r y q hr ht
  · exact back_long f v t s w (by omega)
end Go.Proofs.Ytojneafmdlohoaa
