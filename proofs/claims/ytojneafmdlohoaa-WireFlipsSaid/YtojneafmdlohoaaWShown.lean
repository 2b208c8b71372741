/- Chapter 2's examples: the statements' own helper 'shown' answers true, and changes nothing that was there. -/
import Derived.Test.YtojneafmdlohoaaWRead
namespace Go.Proofs.Ytojneafmdlohoaa
open Go.RowKit

theorem strs_one (a : ByteArray) (W : World) : Strs (W.alloc (.cells #[.string a] 9)) (.slice (some ⟨W.heap.size, 0, none⟩) 1 1) [a] :=
  .inr ⟨_, 0, 1, rfl, by simp, fun j hj => by
    obtain rfl : j = 0 := by simp at hj; omega
    rw [cell_at (heap_alloc_new ..)]; rfl⟩
theorem strs_two (a b : ByteArray) (W : World) : Strs (W.alloc (.cells #[.string a, .string b] 9)) (.slice (some ⟨W.heap.size, 0, none⟩) 2 2) [a, b] :=
  .inr ⟨_, 0, 2, rfl, by simp, fun j hj => by
    rw [cell_at (heap_alloc_new ..)]
    match j, hj with
    | 0, _ => rfl
    | 1, _ => rfl⟩
theorem strs_three (a b c : ByteArray) (W : World) : Strs (W.alloc (.cells #[.string a, .string b, .string c] 9)) (.slice (some ⟨W.heap.size, 0, none⟩) 3 3) [a, b, c] :=
  .inr ⟨_, 0, 3, rfl, by simp, fun j hj => by
    rw [cell_at (heap_alloc_new ..)]
    match j, hj with
    | 0, _ => rfl
    | 1, _ => rfl
    | 2, _ => rfl⟩
theorem below_one {W w' : World} {o : Obj} (h : Below (W.alloc o).heap.size (W.alloc o) w') : Below W.heap.size W w' :=
  ((Below.refl _ _).alloc (Nat.le_refl _) _).trans (h.mono (by simp))

section
variable (W : World)
theorem crc1 (a : ByteArray) (ha : a.size ≤ maxLen) : Calls Try.prog 12 #[.slice (some ⟨W.heap.size, 0, none⟩) 1 1] (W.alloc (.cells #[.string a] 9)) fun e w' => e = .returned (.int .u32 ((crcL a.data.toList : Nat) : Int)) ∧ Below W.heap.size W w' := by
  refine (crc_any [a] _ _ (by unfold maxLen; simp) (fun s hs => by simp at hs; subst hs; exact ha) (strs_one a W)).mono fun e w' ⟨he, hw⟩ => ?_
  subst hw
  exact ⟨by rw [he]; simp [joinB], (Below.refl _ _).alloc (Nat.le_refl _) _⟩
theorem crc2 (a b : ByteArray) (ha : a.size ≤ maxLen) (hb : b.size ≤ maxLen) : Calls Try.prog 12 #[.slice (some ⟨W.heap.size, 0, none⟩) 2 2] (W.alloc (.cells #[.string a, .string b] 9)) fun e w' => e = .returned (.int .u32 ((crcL (a.data.toList ++ b.data.toList) : Nat) : Int)) ∧ Below W.heap.size W w' := by
  refine (crc_any [a, b] _ _ (by unfold maxLen; simp) (fun s hs => by simp at hs; rcases hs with rfl | rfl <;> assumption) (strs_two a b W)).mono fun e w' ⟨he, hw⟩ => ?_
  subst hw
  exact ⟨by rw [he]; simp [joinB], (Below.refl _ _).alloc (Nat.le_refl _) _⟩
theorem crc3 (a b c : ByteArray) (ha : a.size ≤ maxLen) (hb : b.size ≤ maxLen) (hc : c.size ≤ maxLen) : Calls Try.prog 12 #[.slice (some ⟨W.heap.size, 0, none⟩) 3 3] (W.alloc (.cells #[.string a, .string b, .string c] 9)) fun e w' => e = .returned (.int .u32 ((crcL (a.data.toList ++ b.data.toList ++ c.data.toList) : Nat) : Int)) ∧ Below W.heap.size W w' := by
  refine (crc_any [a, b, c] _ _ (by unfold maxLen; simp) (fun s hs => by simp at hs; rcases hs with rfl | rfl | rfl <;> assumption) (strs_three a b c W)).mono fun e w' ⟨he, hw⟩ => ?_
  subst hw
  exact ⟨by rw [he]; simp [joinB], (Below.refl _ _).alloc (Nat.le_refl _) _⟩
theorem text1 (a : ByteArray) (ha : a.size ≤ 1000000) : Calls Try.prog 24 #[.slice (some ⟨W.heap.size, 0, none⟩) 1 1] (W.alloc (.cells #[.string a] 9)) fun e w' => e = .returned (.string (bs (textL a.data.toList))) ∧ Below W.heap.size W w' := by
  refine (text_any [a] _ _ (by simp) (fun s hs => by simp at hs; subst hs; exact ha) (strs_one a W)).mono fun e w' ⟨he, hw⟩ => ?_
  exact ⟨by rw [he]; simp [textsL], below_one hw⟩
theorem text2 (a b : ByteArray) (ha : a.size ≤ 1000000) (hb : b.size ≤ 1000000) : Calls Try.prog 24 #[.slice (some ⟨W.heap.size, 0, none⟩) 2 2] (W.alloc (.cells #[.string a, .string b] 9)) fun e w' => e = .returned (.string (bs (textL a.data.toList ++ textL b.data.toList))) ∧ Below W.heap.size W w' := by
  refine (text_any [a, b] _ _ (by simp) (fun s hs => by simp at hs; rcases hs with rfl | rfl <;> assumption) (strs_two a b W)).mono fun e w' ⟨he, hw⟩ => ?_
  exact ⟨by rw [he]; simp [textsL], below_one hw⟩
theorem var2 (a b : Nat) (ha : a < 18446744073709551616) (hb : b < 18446744073709551616) : Calls Try.prog 20 #[.slice (some ⟨W.heap.size, 0, none⟩) 2 2] (W.alloc (.cells #[.int .u64 (a : Int), .int .u64 (b : Int)] 27)) fun e w' => e = .returned (.string (bs (varL a ++ varL b))) ∧ Below W.heap.size W w' := by
  refine (var_some [a, b] W.heap.size 0 2 _ (by simp) (fun s hs => by simp at hs; rcases hs with rfl | rfl <;> assumption) (by simp) (fun j hj => ?_)).mono fun e w' ⟨he, hw⟩ => ?_
  · rw [cell_at (heap_alloc_new ..)]
    match j, hj with
    | 0, _ => rfl
    | 1, _ => rfl
  · exact ⟨by rw [he]; simp [varsL], below_one hw⟩
theorem var4 : Calls Try.prog 20 #[.slice (some ⟨W.heap.size, 0, none⟩) 4 4] (W.alloc (.cells #[.int .u64 0, .int .u64 127, .int .u64 128, .int .u64 300] 27)) fun e w' => e = .returned (.string ⟨#[0, 127, 128, 1, 172, 2]⟩) ∧ Below W.heap.size W w' := by
  refine (var_some [0, 127, 128, 300] W.heap.size 0 4 _ (by simp) (fun s hs => by simp at hs; omega) (by simp) (fun j hj => ?_)).mono fun e w' ⟨he, hw⟩ => ?_
  · rw [cell_at (heap_alloc_new ..)]
    match j, hj with
    | 0, _ => rfl
    | 1, _ => rfl
    | 2, _ => rfl
    | 3, _ => rfl
  · refine ⟨?_, below_one hw⟩
    rw [he]
    unfold varsL
    simp only [List.flatMap_cons, List.flatMap_nil]
    rw [varL_lo 0 (by omega), varL_lo 127 (by omega), varL_hi 128 (by omega), varL_hi 300 (by omega), varL_lo (128 / 128) (by omega), varL_lo (300 / 128) (by omega)]
    rfl
theorem ex_crc1 : Calls Try.prog 12 #[.slice (some ⟨W.heap.size, 0, none⟩) 1 1] (W.alloc (.cells #[.string ⟨#[49, 50, 51, 52, 53, 54, 55, 56, 57]⟩] 9)) fun e w' => e = .returned (.int .u32 3421780262) ∧ Below W.heap.size W w' :=
  (crc1 W ⟨#[49, 50, 51, 52, 53, 54, 55, 56, 57]⟩ (by unfold maxLen; decide)).mono fun e w' ⟨he, hb⟩ => ⟨by rw [he, show crcL (ByteArray.mk #[49, 50, 51, 52, 53, 54, 55, 56, 57]).data.toList = 3421780262 by decide +kernel]; rfl, hb⟩
theorem ex_crc2 : Calls Try.prog 12 #[.slice (some ⟨W.heap.size, 0, none⟩) 2 2] (W.alloc (.cells #[.string ⟨#[49, 50, 51, 52]⟩, .string ⟨#[53, 54, 55, 56, 57]⟩] 9)) fun e w' => e = .returned (.int .u32 3421780262) ∧ Below W.heap.size W w' :=
  (crc2 W ⟨#[49, 50, 51, 52]⟩ ⟨#[53, 54, 55, 56, 57]⟩ (by unfold maxLen; decide) (by unfold maxLen; decide)).mono fun e w' ⟨he, hb⟩ => ⟨by rw [he, show crcL ((ByteArray.mk #[49, 50, 51, 52]).data.toList ++ (ByteArray.mk #[53, 54, 55, 56, 57]).data.toList) = 3421780262 by decide +kernel]; rfl, hb⟩
theorem ex_crc0 : Calls Try.prog 12 #[.slice none 0 0] W fun e w' => e = .returned (.int .u32 0) ∧ W = w' :=
  (crc_nil W).mono fun e w' ⟨he, hb⟩ => ⟨by rw [he, show crcL [] = 0 by decide +kernel]; rfl, hb⟩
theorem ex_fix : Calls Try.prog 18 #[.int .u32 16909060] W fun e w' => e = .returned (.string ⟨#[4, 3, 2, 1]⟩) ∧ Below W.heap.size W w' :=
  (fixed_any 16909060 W (by omega)).mono fun e w' ⟨he, hb⟩ => ⟨by rw [he, show bs (fixL 16909060) = ⟨#[4, 3, 2, 1]⟩ by decide +kernel], hb⟩
theorem ex_text : Calls Try.prog 24 #[.slice (some ⟨W.heap.size, 0, none⟩) 2 2] (W.alloc (.cells #[.string ⟨#[97, 98]⟩, .string ⟨#[]⟩] 9)) fun e w' => e = .returned (.string ⟨#[2, 97, 98, 0]⟩) ∧ Below W.heap.size W w' :=
  (text2 W ⟨#[97, 98]⟩ ⟨#[]⟩ (by decide) (by decide)).mono fun e w' ⟨he, hb⟩ => ⟨by
    rw [he]
    unfold textL
    rw [show (ByteArray.mk #[97, 98]).data.toList = [97, 98] from rfl, show (ByteArray.mk #[]).data.toList = [] from rfl, varL_lo _ (by simp), varL_lo _ (by simp)]
    rfl, hb⟩
theorem ex_rd1 : Calls Try.prog 14 #[.string ⟨#[97, 98, 99]⟩] W fun e w' => e = .returned (.tuple #[.int .u32 0, .string ⟨#[]⟩, .bool false]) ∧ Below W.heap.size W w' := toFixed_none _ W (by decide)
theorem ex_rd2 : Calls Try.prog 16 #[.string ⟨#[128, 0]⟩] W fun e w' => e = .returned (.tuple #[.int .u64 0, .string ⟨#[]⟩, .bool false]) ∧ Below W.heap.size W w' := toVar_no W (by unfold maxLen; decide) (by decide +kernel)
theorem ex_rd3 : Calls Try.prog 16 #[.string ⟨#[172, 2, 9]⟩] W fun e w' => e = .returned (.tuple #[.int .u64 300, .string ⟨#[9]⟩, .bool true]) ∧ Below W.heap.size W w' := toVar_yes (v := 300) (r := [9]) W (by unfold maxLen; decide) (by decide +kernel)
theorem ex_rd4 : Calls Try.prog 22 #[.string ⟨#[3, 97, 98]⟩] W fun e w' => e = .returned (.tuple #[.string ⟨#[]⟩, .string ⟨#[]⟩, .bool false]) ∧ Below W.heap.size W w' := toText_no W (by unfold maxLen; decide) (by decide +kernel)
end
theorem below_next {B : Nat} {w a b : World} (h : Below B w a) (hB : B ≤ w.heap.size) (k : Below a.heap.size a b) : Below B w b := h.trans (k.mono (Nat.le_trans hB h.size))

set_option maxRecDepth 100000 in
set_option maxHeartbeats 2000000 in
theorem wshown_any (w : World) : Calls Try.prog 11 #[] w fun e w' => e = .returned (.bool true) ∧ Below w.heap.size w w' := by
  go_enter Try.func11, Try.ntmps11
  go_wp2_with fail
  refine (ex_crc1 _).mono ?_
  rintro e w1 ⟨rfl, hb⟩
  have H1 := Lib.hid hb; clear hb
  go_wp2_with fail
  refine (ex_crc2 _).mono ?_
  rintro e w2 ⟨rfl, hb⟩
  have H2 := Lib.hid (below_next H1.out (Nat.le_refl _) hb); clear hb H1
  go_wp2_with fail
  refine (ex_crc0 _).mono ?_
  rintro e w3 ⟨rfl, rfl⟩
  go_wp2_with fail
  refine (ex_fix _).mono ?_
  rintro e w4 ⟨rfl, hb⟩
  have H4 := Lib.hid (below_next H2.out (Nat.le_refl _) hb); clear hb H2
  go_wp2_with fail
  refine (var4 _).mono ?_
  rintro e w5 ⟨rfl, hb⟩
  have H5 := Lib.hid (below_next H4.out (Nat.le_refl _) hb); clear hb H4
  go_wp2_with fail
  refine (ex_text _).mono ?_
  rintro e w6 ⟨rfl, hb⟩
  have H6 := Lib.hid (below_next H5.out (Nat.le_refl _) hb); clear hb H5
  go_wp2_with fail
  refine (ex_rd1 _).mono ?_
  rintro e w7 ⟨rfl, hb⟩
  have H7 := Lib.hid (below_next H6.out (Nat.le_refl _) hb); clear hb H6
  go_wp2_with fail
  refine (ex_rd2 _).mono ?_
  rintro e w8 ⟨rfl, hb⟩
  have H8 := Lib.hid (below_next H7.out (Nat.le_refl _) hb); clear hb H7
  go_wp2_with fail
  refine (ex_rd3 _).mono ?_
  rintro e w9 ⟨rfl, hb⟩
  have H9 := Lib.hid (below_next H8.out (Nat.le_refl _) hb); clear hb H8
  go_wp2_with fail
  refine (ex_rd4 _).mono ?_
  rintro e w10 ⟨rfl, hb⟩
  have H10 := Lib.hid (below_next H9.out (Nat.le_refl _) hb); clear hb H9
  go_wp2
  go_ret
  exact ⟨rfl, H10.out⟩
end Go.Proofs.Ytojneafmdlohoaa
