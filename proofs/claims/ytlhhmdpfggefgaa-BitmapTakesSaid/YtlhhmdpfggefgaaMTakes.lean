/- BitmapTakes answers true for every text and every numbers: the walk. -/
import Derived.Test.YtlhhmdpfggefgaaMBits
namespace Go.Proofs.Ytlhhmdpfggefgaa
open Go.RowKit

theorem fit_taken {l : List UInt8} {m c k : Nat} (h : fit l m c = some k) (hm : m ≤ 8 * l.length) : fit (stL l k true c) (k + c - 1) c = none := by
  obtain ⟨hf, hl⟩ := fit_is h
  obtain ⟨h1, h2, h3⟩ := fits_iff.1 hf
  apply fit_none
  intro t
  apply fits_no
  rintro ⟨f1, f2, f3⟩
  have := hl t (by omega)
  rw [fits_iff.2 ⟨f1, by omega, fun j a b => ?_⟩] at this
  · cases this
  · have h5 := f3 j a b
    rw [bt_stL _ _ _ _ _ (by omega)] at h5
    by_cases e : k ≤ j ∧ j < k + c
    · rw [if_pos e] at h5; cases h5
    · rw [if_neg e] at h5; exact h5
theorem fi_sub (z k : Nat) (c : Nat) (h : k + c ≤ 8 * z) (h1 : 1 ≤ c) : fi z ((k : Int) + (c : Int) - 1) = k + c - 1 := by unfold fi; omega

set_option maxRecDepth 100000 in
set_option maxHeartbeats 2000000 in
theorem takes_yes (s : ByteArray) (n : Int) (c k : Nat) (w : World) (hs : s.size ≤ 200) (hn : -9223372036854775808 ≤ n ∧ n ≤ 9223372036854775807) (hk : Hid (fit s.data.toList (fi s.size n) c = some k)) :
    Calls Try.prog 5 #[.string s, .int .i64 n, .int .i64 (c : Int)] w fun e w' => e = .returned (.bool true) ∧ Below w.heap.size w w' := by
  have hm := fi_le s.size n
  obtain ⟨hf, hl⟩ := fit_is hk.out
  obtain ⟨h1, h2, h3⟩ := fits_iff.1 hf
  have HFr := Lib.hid h3
  clear hf hl h3
  have hmn : (k : Int) + (c : Int) ≤ n := by have := fi_le' s.size n; omega
  have C1 := Lib.hid fun W => fit_any s n c W (by omega) hn (by omega)
  have C2 := Lib.hid fun W => set_yes s k c true W (by omega) (by omega)
  have HL := Lib.hid fun j => bt_stL s.data.toList k c j true (by rw [str_len]; omega)
  have HBk := Lib.hid (stL_back s.data.toList k c (by rw [str_len]; omega) HFr.out)
  have HFt := Lib.hid (fit_taken hk.out (by rw [str_len]; exact hm))
  have HFm := Lib.hid (fr_stL s.data.toList k c (fi s.size n) (by rw [str_len]; omega) h2 HFr.out)
  obtain ⟨T, hT⟩ : ∃ T, bs (stL s.data.toList k true c) = T := ⟨_, rfl⟩
  have hTs : T.size = s.size := by rw [← hT, bs_size, stL_length, str_len]
  have hTl : stL s.data.toList k true c = T.data.toList := by rw [← hT]; rfl
  rw [hTl] at HL HBk HFt HFm
  rw [hT] at C2
  have C3 := Lib.hid fun W => set_yes T k c false W (by omega) (by omega)
  rw [HBk.out, bs_self] at C3
  have C4 := Lib.hid fun W => free_any T n W (by omega) hn
  have C5 := Lib.hid fun W => free_any s n W (by omega) hn
  have C6 := Lib.hid fun W => fit_any T ((k : Int) + (c : Int) - 1) c W (by omega) (by omega) (by omega)
  rw [hTs] at C4
  rw [hTs, fi_sub _ _ _ (by omega) h1, Int.toNat_natCast, HFt.out] at C6
  rw [Int.toNat_natCast, hk.out] at C1
  have hT1 : T.size ≤ 200 := by omega
  clear hT hTl hTs HBk HFt hk
  generalize fi s.size n = m at *
  have hx1 : fr T.data.toList m + c = fr s.data.toList m := HFm.out
  have hx2 := fr_le s.data.toList m
  clear HFm
  generalize fr T.data.toList m = x at *
  generalize fr s.data.toList m = y at *
  have hq1 : (((x : Nat) : Int) != (y : Int) - (c : Int)) = false := by simp; omega
  have hq2 : (s.toList != s.toList) = false := by simp
  have HX := Lib.hid hx1; clear hx1
  go_enter Try.func5, Try.ntmps5
  go_wp2_with fail
  refine (shown_any _).mono ?_
  rintro e w1 ⟨rfl, hb⟩
  have H1 := Lib.hid hb; clear hb
  go_wp2_with fail
  refine (C1.out _).mono ?_
  rintro e w2 ⟨rfl, hb⟩
  have H2 := Lib.hid (below_next H1.out (Nat.le_refl _) hb); clear hb H1
  show _
  simp only [fitV, Option.getD_some, Option.isSome_some]
  go_wp2_with fail
  refine (C2.out _).mono ?_
  rintro e w3 ⟨rfl, hb⟩
  have H3 := Lib.hid (below_next H2.out (Nat.le_refl _) hb); clear hb H2
  go_wp2_with fail
  refine (C3.out _).mono ?_
  rintro e w4 ⟨rfl, hb⟩
  have H4 := Lib.hid (below_next H3.out (Nat.le_refl _) hb); clear hb H3
  go_wp2_with fail
  refine (C4.out _).mono ?_
  rintro e w5 ⟨rfl, hb⟩
  have H5 := Lib.hid (below_next H4.out (Nat.le_refl _) hb); clear hb H4
  go_wp2_with fail
  refine (C5.out _).mono ?_
  rintro e w6 ⟨rfl, hb⟩
  have H6 := Lib.hid (below_next H5.out (Nat.le_refl _) hb); clear hb H5
  go_wp2
  clear hq1 hq2
  go_loopw [14] (fun i wr => ∃ j : Nat, k ≤ j ∧ j ≤ k + c ∧ i = .int .i64 j ∧ Hid (Below w.heap.size w wr)) (fun i _ => k + c - (intOf i).toNat)
  case atStart => exact ⟨k, Nat.le_refl _, by omega, rfl, H6⟩
  case round =>
    clear H6
    obtain ⟨j, hj1, hj2, rfl, HB⟩ := hrel
    by_cases hlt : j < k + c
    · have D1 := Lib.hid fun W => get_any s j W (by omega) (by omega)
      have D2 := Lib.hid fun W => get_any T j W (by omega) (by omega)
      rw [gb_nat] at D1 D2
      rw [HL.out j, if_pos ⟨hj1, hlt⟩] at D2
      rw [HFr.out j hj1 hlt] at D1
      have hjn : (j : Int) < n := by omega
      go_wp2_with fail
      refine (D1.out _).mono ?_
      rintro e w7 ⟨rfl, hb⟩
      have H7 := Lib.hid (below_next HB.out (Nat.le_refl _) hb); clear hb
      go_wp2_with fail
      refine (D2.out _).mono ?_
      rintro e w8 ⟨rfl, hb⟩
      have H8 := Lib.hid (below_next H7.out (Nat.le_refl _) hb); clear hb
      go_wp2
      go_roundw
      case rel => exact ⟨j + 1, by omega, by omega, by go_num, H8⟩
      case measure => simp [intOf]; omega
    · go_wp2_with fail
      refine (C6.out _).mono ?_
      rintro e w7 ⟨rfl, hb⟩
      have H7 := Lib.hid (below_next HB.out (Nat.le_refl _) hb); clear hb
      simp only [fitV, Option.getD_none, Option.isSome_none]
      go_wp2
      go_ret
      exact ⟨rfl, H7.out⟩
set_option maxRecDepth 100000 in
set_option maxHeartbeats 2000000 in
theorem takes_no (s : ByteArray) (n c : Int) (w : World) (hs : s.size ≤ 200) (hn : -9223372036854775808 ≤ n ∧ n ≤ 9223372036854775807) (hc : -9223372036854775808 ≤ c ∧ c ≤ 9223372036854775807) (hk : Hid (fit s.data.toList (fi s.size n) c.toNat = none)) :
    Calls Try.prog 5 #[.string s, .int .i64 n, .int .i64 c] w fun e w' => e = .returned (.bool true) ∧ Below w.heap.size w w' := by
  have C1 := Lib.hid fun W => fit_any s n c W (by omega) hn hc
  rw [hk.out] at C1
  go_enter Try.func5, Try.ntmps5
  go_wp2_with fail
  refine (shown_any _).mono ?_
  rintro e w1 ⟨rfl, hb⟩
  have H1 := Lib.hid hb; clear hb
  go_wp2_with fail
  refine (C1.out _).mono ?_
  rintro e w2 ⟨rfl, hb⟩
  have H2 := Lib.hid (below_next H1.out (Nat.le_refl _) hb); clear hb H1
  simp only [fitV, Option.getD_none, Option.isSome_none]
  go_wp2
  go_ret
  exact ⟨rfl, H2.out⟩
theorem takes_any (s : ByteArray) (n c : Int) (w : World) (hn : -9223372036854775808 ≤ n ∧ n ≤ 9223372036854775807) (hc : -9223372036854775808 ≤ c ∧ c ≤ 9223372036854775807) :
    Calls Try.prog 5 #[.string s, .int .i64 n, .int .i64 c] w fun e w' => e = .returned (.bool true) ∧ Below w.heap.size w w' := by
  by_cases hs : s.size ≤ 200
  · cases hf : fit s.data.toList (fi s.size n) c.toNat with
    | none => exact takes_no s n c w hs hn hc hf
    | some k =>
      have h0 : 0 ≤ c := by
        have := (fits_iff.1 (fit_is hf).1).1
        omega
      obtain ⟨x, rfl⟩ := Int.eq_ofNat_of_zero_le h0
      exact takes_yes s n x k w hs hn hf
  · have hs1 : ¬ (s.size : Int) ≤ 200 := by omega
    go_enter Try.func5, Try.ntmps5
    go_wp2_with fail
    refine (shown_any _).mono ?_
    rintro e w1 ⟨rfl, hb⟩
    have H1 := Lib.hid hb; clear hb
    go_wp2
    go_ret
    exact ⟨rfl, H1.out⟩
end Go.Proofs.Ytlhhmdpfggefgaa
