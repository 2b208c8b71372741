/- BitmapRuns answers true for every text and every number: the walk. -/
import Derived.Test.YtlhhmdpfggefgaaMBits
namespace Go.Proofs.Ytlhhmdpfggefgaa
open Go.RowKit

theorem tot_take (R : List (Nat × Nat)) (j : Nat) (h : j < R.length) : tot (R.take (j + 1)) = tot (R.take j) + R[j].2 := by
  rw [List.take_succ_eq_append_getElem h]
  exact tot_snoc _ _ _
theorem tot_take_le (R : List (Nat × Nat)) (j : Nat) : tot (R.take j) ≤ tot R := by
  induction R generalizing j with
  | nil => simp
  | cons x R ih =>
    cases j with
    | zero => simp [tot]
    | succ j => have := ih j; simp [tot] at this ⊢; omega
set_option maxRecDepth 100000 in
set_option maxHeartbeats 4000000 in
theorem runsw_some (s : ByteArray) (n : Int) (w : World) (hs : s.size ≤ 1000) (hn : -9223372036854775808 ≤ n ∧ n ≤ 9223372036854775807) :
    Calls Try.prog 6 #[.string s, .int .i64 n] w fun e w' => e = .returned (.bool true) ∧ Below w.heap.size w w' := by
  have hm := fi_le s.size n
  have hm2 : fi s.size n = 0 ∨ ((fi s.size n : Nat) : Int) ≤ n := fi_le' s.size n
  have hm3 : (fi s.size n : Int) < n → 8 * s.size ≤ fi s.size n := by unfold fi; omega
  have C1 := Lib.hid fun W => runs_any s n W (by omega) hn
  have C2 := Lib.hid fun W => free_any s n W (by omega) hn
  have HG := Lib.hid fun (i : Int) W h => get_any s i W (by omega) h
  have HT := Lib.hid (tot_rs s.data.toList (fi s.size n))
  have HRO := Lib.hid (rs_ok s.data.toList (fi s.size n))
  have hfl := fr_le s.data.toList (fi s.size n)
  have hlen := rs_len s.data.toList (fi s.size n)
  obtain ⟨l, hl⟩ : ∃ l, s.data.toList = l := ⟨_, rfl⟩
  rw [hl] at C1 C2 HG HT HRO hfl hlen
  clear hl
  generalize fi s.size n = m at *
  generalize rs l m = R at *
  generalize fr l m = f at *
  have HM2 := Lib.hid hm2; clear hm2
  have HM3 := Lib.hid hm3; clear hm3
  go_enter Try.func6, Try.ntmps6
  go_wp2_with fail
  refine (shown_any _).mono ?_
  rintro e w1 ⟨rfl, hb⟩
  have H1 := Lib.hid hb; clear hb
  go_wp2_with fail
  refine (C1.out _).mono ?_
  rintro e w2 ⟨v, rfl, hsl, hb⟩
  have H2 := Lib.hid (below_next H1.out (Nat.le_refl _) hb); clear hb H1
  have HS := Lib.hid hsl
  obtain ⟨ao, cp, rfl, _⟩ := hsl
  clear C1
  go_wp2
  go_loopw [7, 8, 9] (fun t d i wr => ∃ (j : Nat) (e : Int), j ≤ R.length ∧ i = .int .i64 j ∧ t = .int .i64 ((tot (R.take j) : Nat) : Int) ∧ d = .int .i64 e ∧ -1 ≤ e ∧ e ≤ m ∧ Hid (e = -1 ∨ 1 ≤ e) ∧ Hid (RO l m e (R.drop j)) ∧ Hid (SlX wr (.slice ao R.length cp) R) ∧ Hid (Below w.heap.size w wr)) (fun _ _ i _ => R.length - (intOf i).toNat)
  case atStart => exact ⟨0, -1, Nat.zero_le _, rfl, rfl, rfl, by omega, by omega, .inl rfl, by show RO _ _ _ _; rw [List.drop_zero]; exact HRO.out, HS, H2⟩
  case round =>
    clear HS H2 HRO
    obtain ⟨j, e, hj, rfl, rfl, rfl, he1, he2, HE, HD, HS, HB⟩ := hrel
    have htl : tot (R.take j) ≤ f := by rw [← HT.out]; exact tot_take_le _ _
    by_cases hlt : j < R.length
    · have HTn := Lib.hid (tot_take R j hlt)
      have htl2 : tot (R.take (j + 1)) ≤ f := by rw [← HT.out]; exact tot_take_le _ _
      have HD' := HD.out
      rw [List.drop_eq_getElem_cons hlt] at HD'
      obtain ⟨b, off, cp', hv, hb, hat⟩ := HS.out.here (by omega)
      simp only [Value.slice.injEq] at hv
      obtain ⟨rfl, _, rfl⟩ := hv
      obtain ⟨hc1, hc2⟩ := hat j hlt
      obtain ⟨x, hx⟩ : ∃ x, R[j] = x := ⟨_, rfl⟩
      rw [hx] at HD' hc1 hc2 HTn
      obtain ⟨x1, x2⟩ := x
      simp only at hc1 hc2 HTn
      clear hx hat
      rw [HTn.out] at htl2
      obtain ⟨h1, h2, h3, h4, h5, h6, h7, h8⟩ := HD'
      simp only at h1 h2 h3 h4 h5 h6 h7 h8
      have G1 : Hid (gb l (x1 : Int) = false) := by show _ = _; rw [gb_nat]; exact h5 x1 (by omega) (by omega)
      have D1 := Lib.hid fun W => HG.out x1 W (by omega)
      rw [G1.out] at D1
      have HD8 := Lib.hid h8
      have D2 : Hid (0 < x1 → ∀ W, Calls Try.prog 14 #[.string s, .int .i64 ((x1 : Int) - 1)] W fun e w' => e = .returned (.bool true) ∧ Below W.heap.size W w') := by
        intro h W
        have := HG.out ((x1 : Int) - 1) W (by omega)
        rwa [show (x1 : Int) - 1 = ((x1 - 1 : Nat) : Int) by omega, gb_nat, h6 h, show ((x1 - 1 : Nat) : Int) = (x1 : Int) - 1 by omega] at this
      have D3 : Hid (x1 + x2 < m → ∀ W, Calls Try.prog 14 #[.string s, .int .i64 ((x1 : Int) + (x2 : Int))] W fun e w' => e = .returned (.bool true) ∧ Below W.heap.size W w') := by
        intro h W
        have := HG.out ((x1 : Int) + (x2 : Int)) W (by omega)
        rwa [show (x1 : Int) + (x2 : Int) = ((x1 + x2 : Nat) : Int) by omega, gb_nat, h7 h, show ((x1 + x2 : Nat) : Int) = (x1 : Int) + (x2 : Int) by omega] at this
      clear h4 h5 h6 h7 h8 G1 HD
      have hcs : (x1 + x2 < m ∧ (x1 : Int) + (x2 : Int) < n ∧ (x1 : Int) + (x2 : Int) < 8 * (s.size : Int)) ∨ n ≤ (x1 : Int) + (x2 : Int) ∨ ((x1 : Int) + (x2 : Int) < n ∧ 8 * (s.size : Int) ≤ (x1 : Int) + (x2 : Int)) := by
        have h10 := HM2.out
        have h11 := HM3.out
        omega
      generalize tot (R.take j) = t at *
      by_cases hx0 : 0 < x1
      · go_wp2_with fail
        refine (D1.out _).mono ?_
        rintro e w3 ⟨rfl, hb3⟩
        have hc1' := (hb3.cell (p := ⟨b, off + j * 2, none⟩) hb).trans hc1
        have hc2' := (hb3.cell (p := ⟨b, off + j * 2 + 1, none⟩) hb).trans hc2
        have HS3 := Lib.hid (HS.out.below hb3)
        have hb' : b < w3.heap.size := Nat.lt_of_lt_of_le hb hb3.size
        have H3 := Lib.hid (below_next HB.out (Nat.le_refl _) hb3)
        clear hb3 hc1 hc2 HS HB
        go_wp2_with fail
        refine (D2.out hx0 _).mono ?_
        rintro e w4 ⟨rfl, hb4⟩
        have hc1 := (hb4.cell (p := ⟨b, off + j * 2, none⟩) hb').trans hc1'
        have hc2 := (hb4.cell (p := ⟨b, off + j * 2 + 1, none⟩) hb').trans hc2'
        have HS4 := Lib.hid (HS3.out.below hb4)
        have H4 := Lib.hid (below_next H3.out (Nat.le_refl _) hb4)
        clear hb4 hc1' hc2' HS3 H3
        go_wp2
        go_quiet (fail)
        have HS5 : Hid (SlX (w4.drewN nq) (.slice (some ⟨b, off, none⟩) R.length cp) R) := HS4.out
        have H5 : Hid (Below w.heap.size w (w4.drewN nq)) := below_drewN H4.out _
        clear HS4 H4
        generalize w4.drewN nq = w5 at *
        rcases hcs with hx1 | hx1 | hx1
        · obtain ⟨hx2, hx3, hx4⟩ := hx1
          go_wp2_with fail
          refine (D3.out hx2 _).mono ?_
          rintro e w6 ⟨rfl, hb6⟩
          have HS6 := Lib.hid (HS5.out.below hb6)
          have H6 := Lib.hid (below_next H5.out (Nat.le_refl _) hb6)
          clear hb6
          go_wp2
          go_roundw
          case rel => exact ⟨j + 1, (x1 : Int) + (x2 : Int), by omega, by go_num, by rw [HTn.out]; go_num, rfl, by omega, by omega, .inr (by omega), by show RO _ _ _ _; rw [← Int.natCast_add]; exact HD8.out, HS6, H6⟩
          case measure => simp [intOf]; omega
        · go_wp2
          go_roundw
          case rel => exact ⟨j + 1, (x1 : Int) + (x2 : Int), by omega, by go_num, by rw [HTn.out]; go_num, rfl, by omega, by omega, .inr (by omega), by show RO _ _ _ _; rw [← Int.natCast_add]; exact HD8.out, HS5, H5⟩
          case measure => simp [intOf]; omega
        · obtain ⟨hx2, hx3⟩ := hx1
          go_wp2
          go_roundw
          case rel => exact ⟨j + 1, (x1 : Int) + (x2 : Int), by omega, by go_num, by rw [HTn.out]; go_num, rfl, by omega, by omega, .inr (by omega), by show RO _ _ _ _; rw [← Int.natCast_add]; exact HD8.out, HS5, H5⟩
          case measure => simp [intOf]; omega
      · go_wp2_with fail
        refine (D1.out _).mono ?_
        rintro e w3 ⟨rfl, hb3⟩
        have hc1' := (hb3.cell (p := ⟨b, off + j * 2, none⟩) hb).trans hc1
        have hc2' := (hb3.cell (p := ⟨b, off + j * 2 + 1, none⟩) hb).trans hc2
        have HS3 := Lib.hid (HS.out.below hb3)
        have H3 := Lib.hid (below_next HB.out (Nat.le_refl _) hb3)
        clear hb3 hc1 hc2 HS HB
        go_wp2
        go_quiet (fail)
        have HS5 : Hid (SlX (w3.drewN nq) (.slice (some ⟨b, off, none⟩) R.length cp) R) := HS3.out
        have H5 : Hid (Below w.heap.size w (w3.drewN nq)) := below_drewN H3.out _
        clear HS3 H3
        generalize w3.drewN nq = w5 at *
        rcases hcs with hx1 | hx1 | hx1
        · obtain ⟨hx2, hx3, hx4⟩ := hx1
          go_wp2_with fail
          refine (D3.out hx2 _).mono ?_
          rintro e w6 ⟨rfl, hb6⟩
          have HS6 := Lib.hid (HS5.out.below hb6)
          have H6 := Lib.hid (below_next H5.out (Nat.le_refl _) hb6)
          clear hb6
          go_wp2
          go_roundw
          case rel => exact ⟨j + 1, (x1 : Int) + (x2 : Int), by omega, by go_num, by rw [HTn.out]; go_num, rfl, by omega, by omega, .inr (by omega), by show RO _ _ _ _; rw [← Int.natCast_add]; exact HD8.out, HS6, H6⟩
          case measure => simp [intOf]; omega
        · go_wp2
          go_roundw
          case rel => exact ⟨j + 1, (x1 : Int) + (x2 : Int), by omega, by go_num, by rw [HTn.out]; go_num, rfl, by omega, by omega, .inr (by omega), by show RO _ _ _ _; rw [← Int.natCast_add]; exact HD8.out, HS5, H5⟩
          case measure => simp [intOf]; omega
        · obtain ⟨hx2, hx3⟩ := hx1
          go_wp2
          go_roundw
          case rel => exact ⟨j + 1, (x1 : Int) + (x2 : Int), by omega, by go_num, by rw [HTn.out]; go_num, rfl, by omega, by omega, .inr (by omega), by show RO _ _ _ _; rw [← Int.natCast_add]; exact HD8.out, HS5, H5⟩
          case measure => simp [intOf]; omega
    · obtain rfl : j = R.length := by omega
      have HTf : Hid (tot (R.take R.length) = f) := by show _ = _; rw [List.take_length]; exact HT.out
      rw [HTf.out]
      have hq : (((f : Nat) : Int) == (f : Int)) = true := by simp
      have hmx : e ≤ max n (-1) := by
        have h1 := HE.out
        have h2 := HM2.out
        omega
      go_wp2_with fail
      refine (C2.out _).mono ?_
      rintro e' w3 ⟨rfl, hb3⟩
      have H3 := Lib.hid (below_next HB.out (Nat.le_refl _) hb3)
      clear hb3
      go_wp2
      go_ret
      exact ⟨by simp, H3.out⟩
theorem runsw_any (s : ByteArray) (n : Int) (w : World) (hn : -9223372036854775808 ≤ n ∧ n ≤ 9223372036854775807) :
    Calls Try.prog 6 #[.string s, .int .i64 n] w fun e w' => e = .returned (.bool true) ∧ Below w.heap.size w w' := by
  by_cases hs : s.size ≤ 1000
  · exact runsw_some s n w hs hn
  · have hs1 : ¬ (s.size : Int) ≤ 1000 := by omega
    go_enter Try.func6, Try.ntmps6
    go_wp2_with fail
    refine (shown_any _).mono ?_
    rintro e w1 ⟨rfl, hb⟩
    have H1 := Lib.hid hb; clear hb
    go_wp2
    go_ret
    exact ⟨rfl, H1.out⟩
end Go.Proofs.Ytlhhmdpfggefgaa
