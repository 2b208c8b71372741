/- What Free and Fit answer: how many are free, and where so many beside one another are. -/
import Derived.Test.YtlhhmdpfggefgaaMGet
namespace Go.Proofs.Ytlhhmdpfggefgaa
open Go.RowKit

theorem num_le {a b : Nat} (h : a ≤ b) : ((a : Nat) : Int) ≤ (b : Int) := by omega
set_option maxRecDepth 100000 in
set_option maxHeartbeats 1000000 in
theorem free_any (s : ByteArray) (n : Int) (w : World) (hs : s.size ≤ 1000000) (hn : -9223372036854775808 ≤ n ∧ n ≤ 9223372036854775807) :
    Calls Try.prog 18 #[.string s, .int .i64 n] w fun e w' => e = .returned (.int .i64 ((fr s.data.toList (fi s.size n) : Nat) : Int)) ∧ Below w.heap.size w w' := by
  have hm := fi_le s.size n
  have HF := Lib.hid fun W => first_any s n W hs hn
  generalize fi s.size n = m at *
  go_enter Try.func18, Try.ntmps18
  go_wp2_with fail
  refine (bitsOf_any _ _).mono ?_
  rintro e w1 ⟨b, rfl, hb1, hb2, hc, hbel⟩
  have HB := Lib.hid hbel; clear hbel
  have HC := Lib.hid hc; clear hc
  go_wp2_with fail
  refine (HF.out _).mono ?_
  rintro e w2 ⟨rfl, rfl⟩
  clear HF
  go_wp2
  go_loopw [6, 13] (fun f i wr => ∃ k : Nat, k ≤ m ∧ i = .int .i64 k ∧ f = .int .i64 ((fr s.data.toList k : Nat) : Int) ∧ Hid (wr.cell? ⟨b, 0, none⟩ = some (.string s)) ∧ Hid (Below w.heap.size w wr)) (fun _ i _ => m - (intOf i).toNat)
  case atStart => exact ⟨0, Nat.zero_le _, rfl, rfl, HC, HB⟩
  case round =>
    clear HC HB
    obtain ⟨k, hk, rfl, rfl, HC, HB⟩ := hrel
    have hle := fr_le s.data.toList k
    by_cases hlt : k < m
    · have HC1 := Lib.hid fun h => bits1_any s k b wr hs h HC.out
      rw [gb_nat] at HC1
      have HS : Hid (fr s.data.toList (k + 1) = fr s.data.toList k + if bt s.data.toList k = true then 0 else 1) := rfl
      cases hbt : bt s.data.toList k
      all_goals
        rw [hbt] at HC1 HS
        clear hbt
        go_wp2_with (go_at_call 36; refine (HC1.out (by omega)).mono ?_; rintro e w2 ⟨rfl, q, rfl⟩)
        go_roundw
        case rel => exact ⟨k + 1, by omega, by go_num, by rw [HS.out]; first | rfl | go_num, HC, below_drewN HB.out _⟩
        case measure => simp [intOf]; omega
    · obtain rfl : k = m := by omega
      go_wp2
      go_ret
      exact ⟨rfl, HB.out⟩

/-- What Fit answers. -/
def fitV (o : Option Nat) : Value := .tuple #[.int .i64 ((o.getD 0 : Nat) : Int), .bool o.isSome]
theorem fitV_some {o : Option Nat} {k : Nat} {a : Int} (h : o = some k) (ha : a = (k : Int)) : Ending.returned (.tuple #[.int .i64 a, .bool true]) = .returned (fitV o) := by rw [h, ha]; rfl
theorem fitV_none {o : Option Nat} (h : o = none) : Ending.returned (.tuple #[.int .i64 0, .bool false]) = .returned (fitV o) := by rw [h]; rfl
set_option maxRecDepth 100000 in
set_option maxHeartbeats 2000000 in
theorem fit_any (s : ByteArray) (n c : Int) (w : World) (hs : s.size ≤ 1000000) (hn : -9223372036854775808 ≤ n ∧ n ≤ 9223372036854775807) (hc : -9223372036854775808 ≤ c ∧ c ≤ 9223372036854775807) :
    Calls Try.prog 16 #[.string s, .int .i64 n, .int .i64 c] w fun e w' => e = .returned (fitV (fit s.data.toList (fi s.size n) c.toNat)) ∧ Below w.heap.size w w' := by
  have hm := fi_le s.size n
  have HF := Lib.hid fun W => first_any s n W hs hn
  generalize fi s.size n = m at *
  go_enter Try.func16, Try.ntmps16
  go_wp2_with fail
  refine (bitsOf_any _ _).mono ?_
  rintro e w1 ⟨b, rfl, hb1, hb2, hcl, hbel⟩
  have HB := Lib.hid hbel; clear hbel
  have HC := Lib.hid hcl; clear hcl
  go_wp2_with fail
  refine (HF.out _).mono ?_
  rintro e w2 ⟨rfl, rfl⟩
  clear HF
  go_wp2
  go_loopw [9, 16] (fun f i wr => ∃ k : Nat, k ≤ m ∧ i = .int .i64 k ∧ f = .int .i64 ((rn s.data.toList k : Nat) : Int) ∧ Hid (NoFit s.data.toList c.toNat k) ∧ Hid (wr.cell? ⟨b, 0, none⟩ = some (.string s)) ∧ Hid (Below w.heap.size w wr)) (fun _ i _ => m - (intOf i).toNat)
  case atStart => exact ⟨0, Nat.zero_le _, rfl, rfl, NoFit.zero _ _, HC, HB⟩
  case round =>
    clear HC HB
    obtain ⟨k, hk, rfl, rfl, HN, HC, HB⟩ := hrel
    have hle := rn_le s.data.toList k
    by_cases hlt : k < m
    · have HC1 := Lib.hid fun h => bits1_any s k b wr hs h HC.out
      rw [gb_nat] at HC1
      have HS : Hid (rn s.data.toList (k + 1) = if bt s.data.toList k = true then 0 else rn s.data.toList k + 1) := rfl
      cases hbt : bt s.data.toList k
      · have HBT := Lib.hid hbt
        rw [hbt] at HC1 HS
        clear hbt
        by_cases he : ((rn s.data.toList k : Nat) : Int) + 1 = c
        · have HE : Hid (fit s.data.toList m c.toNat = some (k + 1 - c.toNat)) := HN.out.found hlt HBT.out (by omega)
          have hq : (((rn s.data.toList k : Nat) : Int) + 1 == c) = true := beq_iff_eq.2 he
          have HQ := Lib.hid he; clear he
          have hc1 : 1 ≤ c := by rw [← HQ.out]; omega
          have hc2 : c ≤ (k : Int) + 1 := by rw [← HQ.out]; omega
          go_wp2_with (go_at_call 36; refine (HC1.out (by omega)).mono ?_; rintro e w2 ⟨rfl, q, rfl⟩)
          go_ret2
          exact ⟨fitV_some HE.out (by omega), below_drewN HB.out _⟩
        · have HN2 : Hid (NoFit s.data.toList c.toNat (k + 1)) := HN.out.step (.inr (by omega))
          have hq : (((rn s.data.toList k : Nat) : Int) + 1 == c) = false := beq_eq_false_iff_ne.2 he
          clear he HN
          go_wp2_with (go_at_call 36; refine (HC1.out (by omega)).mono ?_; rintro e w2 ⟨rfl, q, rfl⟩)
          go_roundw
          case rel => exact ⟨k + 1, by omega, by go_num, by rw [HS.out]; first | rfl | go_num, HN2, HC, below_drewN HB.out _⟩
          case measure => simp [intOf]; omega
      · have HN2 : Hid (NoFit s.data.toList c.toNat (k + 1)) := HN.out.step (.inl hbt)
        rw [hbt] at HC1 HS
        clear hbt HN
        go_wp2_with (go_at_call 36; refine (HC1.out (by omega)).mono ?_; rintro e w2 ⟨rfl, q, rfl⟩)
        go_roundw
        case rel => exact ⟨k + 1, by omega, by go_num, by rw [HS.out]; first | rfl | go_num, HN2, HC, below_drewN HB.out _⟩
        case measure => simp [intOf]; omega
    · obtain rfl : k = m := by omega
      go_wp2
      go_ret2
      exact ⟨fitV_none HN.out.none, HB.out⟩
end Go.Proofs.Ytlhhmdpfggefgaa
