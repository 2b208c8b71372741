/- Bits as the program tells them: size, value, the closure, Get, first. -/
import Derived.Test.YtlhhmdpfggefgaaRows
import Derived.Test.YtlhhmdpfggefgaaMMath
import Derived.WalkSpells
import Derived.WalkLawsBesides
import Derived.Lib.Hide
import Derived.Lib.MinMax
import Derived.IntWalk
import Derived.Laws.BitsAllLaws
import Derived.Deep.QuietTactic
import Derived.BigQuiet
namespace Go.Proofs.Ytlhhmdpfggefgaa
open Go.RowKit

theorem str_len (s : ByteArray) : s.data.toList.length = s.size := Array.length_toList
theorem vb_lt (i : Nat) : vb i < 256 := by
  unfold vb
  have : 2 ^ (i % 8) < 2 ^ 8 := Nat.pow_lt_pow_right (by omega) (Nat.mod_lt _ (by omega))
  omega
theorem bt_at (s : ByteArray) (i : Nat) (h : i / 8 < s.size) : bt s.data.toList i = s[i / 8].toNat.testBit (i % 8) := by
  unfold bt
  have h2 : i / 8 < s.data.toList.length := by rw [str_len]; exact h
  rw [show s.data.toList.getD (i / 8) 0 = s[i / 8] by rw [List.getD, List.getElem?_eq_getElem h2]; rfl]
theorem and_vb_all : ∀ b : Fin 256, ∀ r : Fin 8, (b.1 &&& 2 ^ r.1 != 0) = b.1.testBit r.1 := by decide +kernel
theorem and_vb (s : ByteArray) (i : Nat) (h : i / 8 < s.size) : (bits .and .u8 (s[i / 8].toNat : Int) ((vb i : Nat) : Int) != 0) = bt s.data.toList i := by
  rw [u8_and_nat _ _ (s[i / 8].toNat_lt) (vb_lt i), bt_at s i h, ← and_vb_all ⟨_, s[i / 8].toNat_lt⟩ ⟨i % 8, Nat.mod_lt _ (by omega)⟩]
  rw [Bool.eq_iff_iff]
  simp [vb]

theorem ret_of {k : IntKind} {a b : Int} (h : a = b) : Ending.returned (.int k a) = .returned (.int k b) := by rw [h]
theorem ret_bool {a b : Bool} (h : a = b) : Ending.returned (.bool a) = .returned (.bool b) := by rw [h]
theorem vb_int (i : Nat) : ((vb i : Nat) : Int) = 2 ^ (i % 8) % 256 := by
  have h := vb_lt i
  have h2 : (2 : Int) ^ (i % 8) = ((vb i : Nat) : Int) := by unfold vb; rw [Int.natCast_pow]; rfl
  rw [h2]; omega

theorem size_any (s : ByteArray) (w : World) (hs : s.size ≤ 1000000) :
    Calls Try.prog 23 #[.string s] w fun e w' => e = .returned (.int .i64 (8 * (s.size : Int))) ∧ w = w' := by
  go_enter Try.func23, Try.ntmps23
  go_wp2
  go_ret
  exact ⟨rfl, rfl⟩
theorem value_any (i : Nat) (w : World) (hi : i ≤ 8000000) :
    Calls Try.prog 24 #[.int .i64 (i : Int)] w fun e w' => e = .returned (.int .u8 ((vb i : Nat) : Int)) ∧ w = w' := by
  go_enter Try.func24, Try.ntmps24
  go_wp2
  go_ret
  exact ⟨ret_of (by rw [vb_int]), rfl⟩

theorem size_same (s : ByteArray) (w : World) (hs : s.size ≤ 1000000) :
    Calls Try.prog 23 #[.string s] w fun e w' => e = .returned (.int .i64 (8 * (s.size : Int))) ∧ w' = w := (size_any s w hs).mono fun _ _ h => ⟨h.1, h.2.symm⟩
theorem value_same (i : Nat) (w : World) (hi : i ≤ 8000000) :
    Calls Try.prog 24 #[.int .i64 (i : Int)] w fun e w' => e = .returned (.int .u8 ((vb i : Nat) : Int)) ∧ w' = w := (value_any i w hi).mono fun _ _ h => ⟨h.1, h.2.symm⟩
set_option maxRecDepth 100000 in
set_option maxHeartbeats 1000000 in
theorem bits1_any (s : ByteArray) (i : Int) (b : Nat) (w : World) (hs : s.size ≤ 1000000) (hi : -9223372036854775808 ≤ i ∧ i ≤ 9223372036854775807) (hc : w.cell? ⟨b, 0, none⟩ = some (.string s)) :
    Calls Try.prog 36 #[.int .i64 i, .pointer (some ⟨b, 0, none⟩)] w fun e w' => e = .returned (.bool (gb s.data.toList i)) ∧ ∃ n, w' = w.drewN n := by
  obtain ⟨h1, h2⟩ := hi
  by_cases h0 : 0 ≤ i
  · obtain ⟨k, rfl⟩ := Int.eq_ofNat_of_zero_le h0
    rw [gb_nat]
    by_cases hlt : k < 8 * s.size
    · have hq : k / 8 < s.size := by omega
      have HV := Lib.hid (and_vb s k hq)
      have hd0 : decide ((k : Int) < 8 * (s.size : Int)) = true := decide_eq_true (by omega)
      have hd1 : decide ((0 : Int) ≤ (k : Int)) = true := decide_eq_true (by omega)
      have hq0 : (0 : Int) ≤ (k : Int) / 8 := by omega
      have hq1 : (k : Int) / 8 < (s.size : Int) := by omega
      have hq2 : ((k : Int) / 8).toNat = k / 8 := by omega
      go_enter Try.func36, Try.ntmps36
      go_wp2
      go_quiet ((first | (go_at_call 23; exact Calls.quiet_of_same (size_same _ _ (by omega))) | (go_at_call 24; exact Calls.quiet_of_same (value_same _ _ (by omega)))))
      go_wp2
      go_ret
      exact ⟨ret_bool HV.out, nq, rfl⟩
    · have hd0 : decide ((k : Int) < 8 * (s.size : Int)) = false := decide_eq_false (by omega)
      have hd1 : decide ((0 : Int) ≤ (k : Int)) = true := decide_eq_true (by omega)
      rw [bt_out _ _ (by rw [str_len]; omega)]
      go_enter Try.func36, Try.ntmps36
      go_wp2
      go_quiet ((first | (go_at_call 23; exact Calls.quiet_of_same (size_same _ _ (by omega))) | (go_at_call 24; exact Calls.quiet_of_same (value_same _ _ (by omega)))))
      go_wp2
      go_ret
      exact ⟨rfl, nq, rfl⟩
  · have hd1 : decide (0 ≤ i) = false := decide_eq_false h0
    rw [gb_neg _ _ (by omega)]
    go_enter Try.func36, Try.ntmps36
    go_wp2
    go_quiet ((first | (go_at_call 23; exact Calls.quiet_of_same (size_same _ _ (by omega))) | (go_at_call 24; exact Calls.quiet_of_same (value_same _ _ (by omega)))))
    go_wp2
    go_ret
    exact ⟨rfl, nq, rfl⟩

theorem below_drewN {B : Nat} {w w1 : World} (h : Below B w w1) (n : Nat) : Below B w (w1.drewN n) := ⟨h.os, h.tape, h.output, h.size, h.block⟩
theorem below_next {B : Nat} {w a b : World} (h : Below B w a) (hB : B ≤ w.heap.size) (k : Below a.heap.size a b) : Below B w b := h.trans (k.mono (Nat.le_trans hB h.size))
/-- What bitsOf answers: the closure over a new block that holds the text. -/
theorem bitsOf_any (s : ByteArray) (w : World) :
    Calls Try.prog 27 #[.string s] w fun e w' => ∃ b, e = .returned (.func (.func 36) #[] #[.pointer (some ⟨b, 0, none⟩)]) ∧ w.heap.size ≤ b ∧ b < w'.heap.size ∧ w'.cell? ⟨b, 0, none⟩ = some (.string s) ∧ Below w.heap.size w w' := by
  go_enter Try.func27, Try.ntmps27
  go_wp2
  go_ret
  exact ⟨_, rfl, Nat.le_refl _, by simp, by simp [World.cell?_alloc_at], (Below.refl _ _).alloc (Nat.le_refl _) _⟩
set_option maxRecDepth 100000 in
set_option maxHeartbeats 1000000 in
theorem get_any (s : ByteArray) (i : Int) (w : World) (hs : s.size ≤ 1000000) (hi : -9223372036854775808 ≤ i ∧ i ≤ 9223372036854775807) :
    Calls Try.prog 14 #[.string s, .int .i64 i] w fun e w' => e = .returned (.bool (gb s.data.toList i)) ∧ Below w.heap.size w w' := by
  go_enter Try.func14, Try.ntmps14
  go_wp2_with fail
  refine (bitsOf_any _ _).mono ?_
  rintro e w1 ⟨b, rfl, hb1, hb2, hc, hbel⟩
  have HB := Lib.hid hbel; clear hbel
  go_wp2_with (go_at_call 36; refine (bits1_any s i b _ hs hi hc).mono ?_; rintro e w2 ⟨rfl, n, rfl⟩)
  go_ret
  exact ⟨rfl, below_drewN HB.out _⟩
set_option maxHeartbeats 1000000 in
theorem first_any (s : ByteArray) (n : Int) (w : World) (hs : s.size ≤ 1000000) (hn : -9223372036854775808 ≤ n ∧ n ≤ 9223372036854775807) :
    Calls Try.prog 28 #[.string s, .int .i64 n] w fun e w' => e = .returned (.int .i64 ((fi s.size n : Nat) : Int)) ∧ w = w' := by
  go_enter Try.func28, Try.ntmps28
  go_wp2_with fail
  refine (size_any _ _ hs).mono ?_
  rintro e w1 ⟨rfl, rfl⟩
  go_wp2
  go_ret
  exact ⟨ret_of (show max 0 (min n (8 * (s.size : Int))) = _ by unfold fi; omega), rfl⟩
end Go.Proofs.Ytlhhmdpfggefgaa
