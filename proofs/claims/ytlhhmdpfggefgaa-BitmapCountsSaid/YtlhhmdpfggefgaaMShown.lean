/- The chapter's examples come out as they are shown. -/
import Derived.Test.YtlhhmdpfggefgaaMFit2
namespace Go.Proofs.Ytlhhmdpfggefgaa
open Go.RowKit

theorem sh_set1 (w : World) : Calls Try.prog 10 #[.string ⟨#[0]⟩, .int .i64 1, .int .i64 3, .bool true] w fun e w' => e = .returned (.tuple #[.string ⟨#[14]⟩, .bool true]) ∧ Below w.heap.size w w' :=
  (set_any ⟨#[0]⟩ 1 3 true w (by decide) (by decide) (by decide)).mono fun e w' ⟨he, hb⟩ => ⟨by rw [he]; kernel_rfl, hb⟩
theorem sh_set2 (w : World) : Calls Try.prog 10 #[.string ⟨#[0]⟩, .int .i64 6, .int .i64 3, .bool true] w fun e w' => e = .returned (.tuple #[.string ⟨#[]⟩, .bool false]) ∧ Below w.heap.size w w' :=
  (set_any ⟨#[0]⟩ 6 3 true w (by decide) (by decide) (by decide)).mono fun e w' ⟨he, hb⟩ => ⟨by rw [he]; kernel_rfl, hb⟩
theorem sh_fit1 (w : World) : Calls Try.prog 16 #[.string ⟨#[13]⟩, .int .i64 8, .int .i64 1] w fun e w' => e = .returned (.tuple #[.int .i64 1, .bool true]) ∧ Below w.heap.size w w' :=
  (fit_any ⟨#[13]⟩ 8 1 w (by decide) (by decide) (by decide)).mono fun e w' ⟨he, hb⟩ => ⟨by rw [he]; kernel_rfl, hb⟩
theorem sh_fit2 (w : World) : Calls Try.prog 16 #[.string ⟨#[13]⟩, .int .i64 8, .int .i64 2] w fun e w' => e = .returned (.tuple #[.int .i64 4, .bool true]) ∧ Below w.heap.size w w' :=
  (fit_any ⟨#[13]⟩ 8 2 w (by decide) (by decide) (by decide)).mono fun e w' ⟨he, hb⟩ => ⟨by rw [he]; kernel_rfl, hb⟩
theorem sh_fit3 (w : World) : Calls Try.prog 16 #[.string ⟨#[13]⟩, .int .i64 8, .int .i64 5] w fun e w' => e = .returned (.tuple #[.int .i64 0, .bool false]) ∧ Below w.heap.size w w' :=
  (fit_any ⟨#[13]⟩ 8 5 w (by decide) (by decide) (by decide)).mono fun e w' ⟨he, hb⟩ => ⟨by rw [he]; kernel_rfl, hb⟩
theorem sh_fit4 (w : World) : Calls Try.prog 16 #[.string ⟨#[13]⟩, .int .i64 5, .int .i64 2] w fun e w' => e = .returned (.tuple #[.int .i64 0, .bool false]) ∧ Below w.heap.size w w' :=
  (fit_any ⟨#[13]⟩ 5 2 w (by decide) (by decide) (by decide)).mono fun e w' ⟨he, hb⟩ => ⟨by rw [he]; kernel_rfl, hb⟩
theorem sh_make (w : World) : Calls Try.prog 12 #[.int .i64 9] w fun e w' => e = .returned (.string ⟨#[0, 0]⟩) ∧ Below w.heap.size w w' :=
  (make_any 9 w (by decide)).mono fun e w' ⟨he, hb⟩ => ⟨by rw [he]; kernel_rfl, hb⟩
theorem sh_get (i : Int) (r : Bool) (w : World) (hi : -9223372036854775808 ≤ i ∧ i ≤ 9223372036854775807) (h : gb [5] i = r) : Calls Try.prog 14 #[.string ⟨#[5]⟩, .int .i64 i] w fun e w' => e = .returned (.bool r) ∧ Below w.heap.size w w' :=
  (get_any ⟨#[5]⟩ i w (by decide) hi).mono fun e w' ⟨he, hb⟩ => ⟨by rw [he]; exact ret_bool h, hb⟩
theorem sh_free (w : World) : Calls Try.prog 18 #[.string ⟨#[13]⟩, .int .i64 8] w fun e w' => e = .returned (.int .i64 5) ∧ Below w.heap.size w w' :=
  (free_any ⟨#[13]⟩ 8 w (by decide) (by decide)).mono fun e w' ⟨he, hb⟩ => ⟨by rw [he]; kernel_rfl, hb⟩
theorem sh_runs (w : World) : Calls Try.prog 21 #[.string ⟨#[13]⟩, .int .i64 8] w fun e w' => ∃ v, e = .returned v ∧ SlX w' v [(1, 1), (4, 4)] ∧ Below w.heap.size w w' :=
  (runs_any ⟨#[13]⟩ 8 w (by decide) (by decide)).mono fun e w' ⟨v, he, hs, hb⟩ => ⟨v, he, by rw [show [(1, 1), (4, 4)] = rs (ByteArray.mk #[13]).data.toList (fi (ByteArray.mk #[13]).size 8) by kernel_rfl]; exact hs, hb⟩
theorem sh_lit (w : World) (t : TypeId) : SlX (w.alloc (.cells #[.int .i64 1, .int .i64 1, .int .i64 4, .int .i64 4] t)) (.slice (some ⟨w.heap.size, 0, none⟩) 2 2) [(1, 1), (4, 4)] := by
  refine ⟨_, 2, rfl, .inr ⟨w.heap.size, 0, rfl, by simp, ?_⟩⟩
  intro j hj
  have hj' : j < 2 := hj
  rw [cell_at (heap_alloc_new ..), cell_at (heap_alloc_new ..)]
  rcases (show j = 0 ∨ j = 1 by omega) with rfl | rfl <;> exact ⟨rfl, rfl⟩

set_option maxRecDepth 100000 in
set_option maxHeartbeats 2000000 in
theorem shown_any (w : World) : Calls Try.prog 9 #[] w fun e w' => e = .returned (.bool true) ∧ Below w.heap.size w w' := by
  go_enter Try.func9, Try.ntmps9
  go_wp2_with fail
  refine (sh_set1 _).mono ?_
  rintro e w1 ⟨rfl, hb⟩
  have H1 := Lib.hid hb; clear hb
  go_wp2_with fail
  refine (sh_set2 _).mono ?_
  rintro e w2 ⟨rfl, hb⟩
  have H2 := Lib.hid (below_next H1.out (Nat.le_refl _) hb); clear hb H1
  go_wp2_with fail
  refine (sh_fit1 _).mono ?_
  rintro e w3 ⟨rfl, hb⟩
  have H3 := Lib.hid (below_next H2.out (Nat.le_refl _) hb); clear hb H2
  go_wp2_with fail
  refine (sh_fit2 _).mono ?_
  rintro e w4 ⟨rfl, hb⟩
  have H4 := Lib.hid (below_next H3.out (Nat.le_refl _) hb); clear hb H3
  go_wp2_with fail
  refine (sh_fit3 _).mono ?_
  rintro e w5 ⟨rfl, hb⟩
  have H5 := Lib.hid (below_next H4.out (Nat.le_refl _) hb); clear hb H4
  go_wp2_with fail
  refine (sh_fit4 _).mono ?_
  rintro e w6 ⟨rfl, hb⟩
  have H6 := Lib.hid (below_next H5.out (Nat.le_refl _) hb); clear hb H5
  go_wp2_with fail
  refine (sh_make _).mono ?_
  rintro e w7 ⟨rfl, hb⟩
  have H7 := Lib.hid (below_next H6.out (Nat.le_refl _) hb); clear hb H6
  go_wp2_with fail
  refine (sh_get 0 true _ (by decide) (by kernel_rfl)).mono ?_
  rintro e w8 ⟨rfl, hb⟩
  have H8 := Lib.hid (below_next H7.out (Nat.le_refl _) hb); clear hb H7
  go_wp2_with fail
  refine (sh_get 1 false _ (by decide) (by kernel_rfl)).mono ?_
  rintro e w9 ⟨rfl, hb⟩
  have H9 := Lib.hid (below_next H8.out (Nat.le_refl _) hb); clear hb H8
  go_wp2_with fail
  refine (sh_get 2 true _ (by decide) (by kernel_rfl)).mono ?_
  rintro e w10 ⟨rfl, hb⟩
  have H10 := Lib.hid (below_next H9.out (Nat.le_refl _) hb); clear hb H9
  go_wp2_with fail
  refine (sh_get 8 false _ (by decide) (by kernel_rfl)).mono ?_
  rintro e w11 ⟨rfl, hb⟩
  have H11 := Lib.hid (below_next H10.out (Nat.le_refl _) hb); clear hb H10
  go_wp2_with fail
  refine (sh_runs _).mono ?_
  rintro e w12 ⟨v, rfl, hsl, hb⟩
  have H12 := Lib.hid (below_next H11.out (Nat.le_refl _) hb); clear hb H11
  have HS := Lib.hid hsl; clear hsl
  go_wp2_with fail
  refine (same_yes _ _ _ _ (by decide) (HS.out.below ((Below.refl _ _).alloc (Nat.le_refl _) _)) (sh_lit _ _)).mono ?_
  rintro e w13 ⟨rfl, hb⟩
  have H13 := Lib.hid (below_next (H12.out.alloc H12.out.size _) (Nat.le_refl _) hb); clear hb H12
  go_wp2_with fail
  refine (sh_free _).mono ?_
  rintro e w14 ⟨rfl, hb⟩
  have H14 := Lib.hid (below_next H13.out (Nat.le_refl _) hb); clear hb H13
  go_wp2
  go_ret
  exact ⟨rfl, H14.out⟩
end Go.Proofs.Ytlhhmdpfggefgaa
