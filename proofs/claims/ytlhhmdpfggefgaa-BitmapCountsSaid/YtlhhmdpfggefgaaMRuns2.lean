/- The document's own Runs and Fit. -/
import Derived.Test.YtlhhmdpfggefgaaMRuns
namespace Go.Proofs.Ytlhhmdpfggefgaa
open Go.RowKit

set_option maxRecDepth 100000 in
set_option maxHeartbeats 2000000 in
theorem rruns_any (s : ByteArray) (n : Int) (w : World) (hs : s.size ≤ 1000000) (hn : -9223372036854775808 ≤ n ∧ n ≤ 9223372036854775807) :
    Calls Try.prog 22 #[.string s, .int .i64 n] w fun e w' => ∃ v, e = .returned v ∧ SlX w' v (rs s.data.toList (fi s.size n)) ∧ Below w.heap.size w w' := by
  obtain ⟨i0, hi, hz0, hz1, hz2⟩ := info_parts Try.infoX
  have HZ2 := Lib.hid hz2; clear hz2
  have hm := fi_le s.size n
  have HF := Lib.hid fun W => rfirst_any s n W hs hn
  generalize fi s.size n = m at *
  obtain ⟨l, hl⟩ : ∃ l, s.data.toList = l := ⟨_, rfl⟩
  rw [hl]
  have HLs := Lib.hid hl; clear hl
  go_enter Try.func22, Try.ntmps22
  go_wp2_with fail
  refine (HF.out _).mono ?_
  rintro e w2 ⟨rfl, rfl⟩
  clear HF
  obtain ⟨B, hB⟩ : ∃ B, w.heap.size = B := ⟨_, rfl⟩
  have HBs := Lib.hid hB; clear hB
  go_wp2
  go_loopw [5, 7] (fun v i wr => ∃ (k : Nat) (R : List (Nat × Nat)), k ≤ m + 1 ∧ i = .int .i64 k ∧ Hid (R = rs l (min k m)) ∧ Hid (k < m → (k = 0 ∨ bt l (k - 1) = true)) ∧ Hid (OwnX B wr v R) ∧ Hid (Below B w wr)) (fun _ i _ => m + 1 - (intOf i).toNat)
  case atStart => exact ⟨0, [], Nat.zero_le _, rfl, by show _ = _; rw [Nat.zero_min]; rfl, (fun _ => .inl rfl), OwnX.nil _ _, Below.refl _ _⟩
  case round =>
    obtain ⟨i, R, hk, rfl, HR, HP, HO, HW⟩ := hrel
    have hlen : R.length ≤ m := by rw [HR.out]; exact Nat.le_trans (rs_len _ _) (Nat.min_le_right _ _)
    obtain ⟨ao, c, rfl⟩ := HO.out.form
    by_cases hlt : i < m
    · go_wp2
      go_loop [8] (fun t => ∃ k : Nat, i ≤ k ∧ k ≤ m ∧ t = .int .i64 k ∧ Hid (∀ j, i ≤ j → j < k → bt l j = false)) (fun t => m - (intOf t).toNat)
      case atStart => exact ⟨i, Nat.le_refl _, by omega, rfl, fun j h1 h2 => by omega⟩
      case round =>
        obtain ⟨k, hik, hkm, rfl, HFr⟩ := hrel
        have HC1 := Lib.hid fun W => rget_any s k W hs (by omega)
        rw [gb_nat, HLs.out] at HC1
        by_cases hc : k < m ∧ bt l k = false
        · obtain ⟨hlt2, hbt⟩ := hc
          have HBT := Lib.hid hbt
          rw [hbt] at HC1
          clear hbt
          go_wp2_with (go_at_call 15; refine (HC1.out _).mono ?_; rintro e w2 ⟨rfl, rfl⟩)
          go_round
          case rel => exact ⟨k + 1, by omega, by omega, by go_num, fun j h1 h2 => by
              by_cases e : j = k
              · rw [e]; exact HBT.out
              · exact HFr.out j h1 (by omega)⟩
          case measure => simp [intOf]; omega
        · have HE : Hid (rs l (min (k + 1) m) = if i < k then R ++ [(i, k - i)] else R) := by
            show _ = _
            have hRi : R = rs l i := by rw [HR.out, Nat.min_eq_left (by omega)]
            have h1 : rs l (min (k + 1) m) = rs l k := by
              by_cases e : k < m
              · rw [Nat.min_eq_left (by omega)]; exact rs_used (by cases hx : bt l k; exact absurd ⟨e, hx⟩ hc; rfl)
              · rw [show min (k + 1) m = k by omega]
            rw [h1]
            by_cases e : i < k
            · rw [if_pos e, hRi, ← show k - i - 1 + 1 = k - i by omega, ← rs_run l i (k - i - 1) (HP.out hlt) (fun j a b => HFr.out j a (by omega))]
              congr 1; omega
            · rw [if_neg e, hRi]; congr 1; omega
          have HP2 : Hid (k + 1 < m → (k + 1 = 0 ∨ bt l (k + 1 - 1) = true)) := by
            intro h1
            right
            rw [Nat.add_sub_cancel]
            cases hx : bt l k
            · exact absurd ⟨by omega, hx⟩ hc
            · rfl
          have hcs : (m ≤ k) ∨ (k < m ∧ bt l k = true) := by
            by_cases e : k < m
            · right; exact ⟨e, by cases hx : bt l k; exact absurd ⟨e, hx⟩ hc; rfl⟩
            · left; omega
          clear hc HFr HP
          by_cases hgt : i < k
          · rw [if_pos hgt] at HE
            have hbx : B ≤ wr.heap.size := by rw [← HBs.out]; have := HW.out.size; exact this
            rcases hcs with hc1 | ⟨hc1, hbt⟩
            · go_wp2_with (at_builtin; (refine wpList_append_own _ rfl _ _ 32 rfl B 36 i0 _ 2 16 Try.underlying32 hi hz0 hz1 HZ2.out rfl (by decide) _ R.length (flatX R) rfl (HO.out.alloc _) _ 1 1 [.int .i64 (i : Int), .int .i64 ((k : Int) - (i : Int))] rfl rfl (two_cells (by simp)) two_one ?c13 ?c14 ?c15 ?_))
              case c13 => unfold maxLen; omega
              case c14 => omega
              case c15 => first | omega | (simp; omega)
              intro v1 w3 hown hgrow _
              have HO3 : Hid (OwnX B w3 v1 (rs l (min (k + 1) m))) := by
                show OwnX _ _ _ _
                rw [HE.out]; exact OwnX.push (by rw [show ((k - i : Nat) : Int) = (k : Int) - (i : Int) by omega]; exact hown)
              have HW3 : Hid (Below B w w3) := (HW.out.alloc hbx _).grown hgrow (by simp; omega) (fun q hq => (HO.out.lt q hq).1)
              clear hown hgrow
              go_wp2
              go_roundw
              case rel => exact ⟨k + 1, _, by omega, by go_num, rfl, HP2, HO3, HW3⟩
              case measure => simp [intOf]; omega
            · rw [hbt] at HC1
              clear hbt
              go_wp2_with (first | (go_at_call 15; refine (HC1.out _).mono ?_; rintro e w2 ⟨rfl, rfl⟩) | (at_builtin; (refine wpList_append_own _ rfl _ _ 32 rfl B 36 i0 _ 2 16 Try.underlying32 hi hz0 hz1 HZ2.out rfl (by decide) _ R.length (flatX R) rfl (HO.out.alloc _) _ 1 1 [.int .i64 (i : Int), .int .i64 ((k : Int) - (i : Int))] rfl rfl (two_cells (by simp)) two_one ?c23 ?c24 ?c25 ?_)))
              case c23 => unfold maxLen; omega
              case c24 => omega
              case c25 => first | omega | (simp; omega)
              intro v1 w3 hown hgrow _
              have HO3 : Hid (OwnX B w3 v1 (rs l (min (k + 1) m))) := by
                show OwnX _ _ _ _
                rw [HE.out]; exact OwnX.push (by rw [show ((k - i : Nat) : Int) = (k : Int) - (i : Int) by omega]; exact hown)
              have HW3 : Hid (Below B w w3) := (HW.out.alloc hbx _).grown hgrow (by simp; omega) (fun q hq => (HO.out.lt q hq).1)
              clear hown hgrow
              go_wp2
              go_roundw
              case rel => exact ⟨k + 1, _, by omega, by go_num, rfl, HP2, HO3, HW3⟩
              case measure => simp [intOf]; omega
          · rw [if_neg hgt] at HE
            rcases hcs with hc1 | ⟨hc1, hbt⟩
            · omega
            · rw [hbt] at HC1
              clear hbt
              go_wp2_with (first | (go_at_call 15; refine (HC1.out _).mono ?_; rintro e w2 ⟨rfl, rfl⟩))
              go_roundw
              case rel => exact ⟨k + 1, R, by omega, by go_num, HE.out.symm, HP2, HO, HW⟩
              case measure => simp [intOf]; omega
    · go_wp2
      go_ret
      exact ⟨_, rfl, by rw [show m = min i m by omega, ← HR.out]; exact HO.out.sl, by rw [HBs.out]; exact HW.out⟩
end Go.Proofs.Ytlhhmdpfggefgaa
