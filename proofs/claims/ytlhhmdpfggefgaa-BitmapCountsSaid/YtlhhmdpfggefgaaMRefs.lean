/- The document's own Set and Free. -/
import Derived.Test.YtlhhmdpfggefgaaMMake
namespace Go.Proofs.Ytlhhmdpfggefgaa
open Go.RowKit

set_option maxRecDepth 100000 in
set_option maxHeartbeats 2000000 in
theorem rset_yes (s : ByteArray) (a c : Nat) (on : Bool) (w : World) (hs : s.size ≤ 1000000) (h : a + c ≤ 8 * s.size) :
    Calls Try.prog 11 #[.string s, .int .i64 (a : Int), .int .i64 (c : Int), .bool on] w fun e w' => e = .returned (.tuple #[.string (bs (stL s.data.toList a on c)), .bool true]) ∧ Below w.heap.size w w' := by
  obtain ⟨cap, w2, hcv, hrow, hbel, _⟩ := bytes_new w s
  have HR := Lib.hid hrow; clear hrow
  have HB := Lib.hid hbel; clear hbel
  obtain ⟨g, hg⟩ : ∃ g, w.heap.size = g := ⟨_, rfl⟩
  rw [hg] at HR HB hcv ⊢
  have HG := Lib.hid hg; clear hg
  go_enter Try.func11, Try.ntmps11
  go_wp2
  clear hcv
  go_loopw [12] (fun i wr => ∃ (p : Nat) (l : List UInt8), a ≤ p ∧ p ≤ a + c ∧ i = .int .i64 (p : Int) ∧ Hid (l = stL s.data.toList a on (p - a)) ∧ Hid (FRow wr g l) ∧ Hid (Below g w wr)) (fun i _ => a + c - (intOf i).toNat)
  case atStart => exact ⟨a, s.data.toList, Nat.le_refl _, by omega, rfl, by show _ = _; rw [Nat.sub_self]; rfl, HR, HB⟩
  case round =>
    clear HR HB
    obtain ⟨p, l, hp, hj, rfl, HL, HR, HB⟩ := hrel
    have HLn : Hid (l.length = s.size) := by show _ = _; rw [HL.out, stL_length, str_len]
    by_cases hlt : p < a + c
    · have HL2 : Hid (set1 l p on = stL s.data.toList a on (p + 1 - a)) := by show _ = _; rw [show p + 1 - a = (p - a) + 1 by omega, stL, ← HL.out, show a + (p - a) = p by omega]
      have HO := Lib.hid (one_any l g cap s.size p on wr hs HLn (by omega) HR)
      go_wp2_with fail
      refine HO.out.mono ?_
      rintro e w3 ⟨rfl, hr3, hb3⟩
      have HR3 := Lib.hid hr3; clear hr3
      have HB3 := Lib.hid (HB.out.trans hb3); clear hb3
      go_wp2
      go_roundw
      case rel => exact ⟨p + 1, _, by omega, by omega, by go_num, HL2, HR3, HB3⟩
      case measure => simp [intOf]; omega
    · obtain rfl : p = a + c := by omega
      have hconv := HR.out.text (cap := cap)
      rw [HLn.out] at hconv
      have HL3 : Hid (stL s.data.toList a on c = l) := by show _ = _; rw [HL.out, show a + c - a = c by omega]
      go_wp2
      go_ret2
      exact ⟨by rw [HL3.out]; rfl, HB.out⟩
set_option maxRecDepth 100000 in
set_option maxHeartbeats 1000000 in
theorem rset_no (s : ByteArray) (a c : Int) (on : Bool) (w : World) (hs : s.size ≤ 1000000) (ha : -9223372036854775808 ≤ a ∧ a ≤ 9223372036854775807) (hc : -9223372036854775808 ≤ c ∧ c ≤ 9223372036854775807) (h : ¬ (0 ≤ a ∧ 0 ≤ c ∧ a + c ≤ 8 * (s.size : Int))) :
    Calls Try.prog 11 #[.string s, .int .i64 a, .int .i64 c, .bool on] w fun e w' => e = .returned (.tuple #[.string ⟨#[]⟩, .bool false]) ∧ Below w.heap.size w w' := by
  rcases (show a < 0 ∨ (0 ≤ a ∧ c < 0) ∨ (0 ≤ a ∧ 0 ≤ c ∧ 8 * (s.size : Int) < c) ∨ (0 ≤ a ∧ 0 ≤ c ∧ c ≤ 8 * (s.size : Int) ∧ 8 * (s.size : Int) - c < a) by omega) with h1 | ⟨h1, h2⟩ | ⟨h1, h2, h3⟩ | ⟨h1, h2, h3, h4⟩
  all_goals
    clear h
    go_enter Try.func11, Try.ntmps11
    go_wp2
    go_ret2
    exact ⟨rfl, Below.refl _ _⟩
theorem rset_any (s : ByteArray) (a c : Int) (on : Bool) (w : World) (hs : s.size ≤ 1000000) (ha : -9223372036854775808 ≤ a ∧ a ≤ 9223372036854775807) (hc : -9223372036854775808 ≤ c ∧ c ≤ 9223372036854775807) :
    Calls Try.prog 11 #[.string s, .int .i64 a, .int .i64 c, .bool on] w fun e w' => e = .returned (setV s.data.toList a c on) ∧ Below w.heap.size w w' := by
  by_cases h : 0 ≤ a ∧ 0 ≤ c ∧ a + c ≤ 8 * (s.size : Int)
  · obtain ⟨x, rfl⟩ := Int.eq_ofNat_of_zero_le h.1
    obtain ⟨y, rfl⟩ := Int.eq_ofNat_of_zero_le h.2.1
    rw [setV_yes _ _ _ _ (by rw [str_len]; omega)]
    exact rset_yes s x y on w hs (by omega)
  · rw [setV_no (by rw [str_len]; exact h)]
    exact rset_no s a c on w hs ha hc h

set_option maxRecDepth 100000 in
set_option maxHeartbeats 1000000 in
theorem rfree_any (s : ByteArray) (n : Int) (w : World) (hs : s.size ≤ 1000000) (hn : -9223372036854775808 ≤ n ∧ n ≤ 9223372036854775807) :
    Calls Try.prog 19 #[.string s, .int .i64 n] w fun e w' => e = .returned (.int .i64 ((fr s.data.toList (fi s.size n) : Nat) : Int)) ∧ w = w' := by
  have hm := fi_le s.size n
  have HF := Lib.hid fun W => rfirst_any s n W hs hn
  generalize fi s.size n = m at *
  go_enter Try.func19, Try.ntmps19
  go_wp2
  go_loop [5, 6] (fun f i => ∃ k : Nat, k ≤ m ∧ i = .int .i64 k ∧ f = .int .i64 ((fr s.data.toList k : Nat) : Int)) (fun _ i => m - (intOf i).toNat)
  case atStart => exact ⟨0, Nat.zero_le _, rfl, rfl⟩
  case round =>
    obtain ⟨k, hk, rfl, rfl⟩ := hrel
    have hle := fr_le s.data.toList k
    by_cases hlt : k < m
    · have HC1 := Lib.hid fun W => rget_any s k W hs (by omega)
      rw [gb_nat] at HC1
      have HS : Hid (fr s.data.toList (k + 1) = fr s.data.toList k + if bt s.data.toList k = true then 0 else 1) := rfl
      cases hbt : bt s.data.toList k
      all_goals
        rw [hbt] at HC1 HS
        clear hbt
        go_wp2_with (first | (go_at_call 29; refine (HF.out _).mono ?_; rintro e w2 ⟨rfl, rfl⟩) | (go_at_call 15; refine (HC1.out _).mono ?_; rintro e w2 ⟨rfl, rfl⟩))
        go_round
        case rel => exact ⟨k + 1, by omega, by go_num, by rw [HS.out]; first | rfl | go_num⟩
        case measure => simp [intOf]; omega
    · obtain rfl : k = m := by omega
      go_wp2_with (first | (go_at_call 29; refine (HF.out _).mono ?_; rintro e w2 ⟨rfl, rfl⟩))
      go_ret
      exact ⟨rfl, rfl⟩
end Go.Proofs.Ytlhhmdpfggefgaa
