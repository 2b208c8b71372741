/- What Runs answers: what is free, as extents. -/
import Derived.Test.YtlhhmdpfggefgaaMRow
namespace Go.Proofs.Ytlhhmdpfggefgaa
open Go.RowKit

theorem rs_used {l : List UInt8} {k : Nat} (h : bt l k = true) : rs l (k + 1) = rs l k := by rw [rs, if_pos h]
theorem rs_new {l : List UInt8} {k : Nat} (h : bt l k = false) (hp : k = 0 ∨ bt l (k - 1) = true) : rs l (k + 1) = rs l k ++ [(k, 1)] := by rw [rs, if_neg (by simp [h]), if_pos hp, bump_snoc]
theorem rs_more {l : List UInt8} {k : Nat} (h : bt l k = false) (h0 : 0 < k) (hp : bt l (k - 1) = false) : ∃ R s c, rs l k = R ++ [(s, c)] ∧ s + c = k ∧ rs l (k + 1) = R ++ [(s, c + 1)] := by
  have ih := rs_ok l k
  rcases List.eq_nil_or_concat (rs l k) with he | ⟨R, x, he⟩
  · rw [he] at ih
    have := ih (k - 1) (by omega) (by omega)
    rw [hp] at this; cases this
  · rw [List.concat_eq_append] at he
    refine ⟨R, x.1, x.2, he, ?_, ?_⟩
    · rw [he] at ih
      have hb := RO.bump (s := x.1) (c := x.2) ih h0 h hp
      have h2 : ∀ (R : List (Nat × Nat)) (e : Int) (m s c : Nat), RO l m e (R ++ [(s, c)]) → bt l (m - 1) = false → 0 < m → s + c = m := by
        intro R
        induction R with
        | nil =>
          rintro e m s c ⟨h1, h2, h3, h4, h5, h6, h7, h8⟩ hm h0
          simp only at h1 h2 h3 h7 h8
          by_cases e1 : s + c = m
          · exact e1
          · exfalso
            have h9 := h7 (by omega)
            by_cases e2 : s + c = m - 1
            · rw [e2, hm] at h9; cases h9
            · have := h8 (m - 1) (by omega) (by omega)
              rw [hm] at this; cases this
        | cons y R ih =>
          rintro e m s c ⟨h1, h2, h3, h4, h5, h6, h7, h8⟩ hm h0
          exact ih _ m s c h8 hm h0
      exact h2 R (-1) k x.1 x.2 ih hp h0
    · have hn : ¬ (k = 0 ∨ bt l (k - 1) = true) := by rw [hp]; simp; omega
      rw [rs, if_neg (by simp [h]), if_neg hn, he]
      exact bump_snoc R x.1 x.2

set_option maxRecDepth 100000 in
set_option maxHeartbeats 1000000 in
theorem runs_any (s : ByteArray) (n : Int) (w : World) (hs : s.size ≤ 1000000) (hn : -9223372036854775808 ≤ n ∧ n ≤ 9223372036854775807) :
    Calls Try.prog 21 #[.string s, .int .i64 n] w fun e w' => ∃ v, e = .returned v ∧ SlX w' v (rs s.data.toList (fi s.size n)) ∧ Below w.heap.size w w' := by
  obtain ⟨i0, hi, hz0, hz1, hz2⟩ := info_parts Try.infoX
  have HZ2 := Lib.hid hz2; clear hz2
  have hm := fi_le s.size n
  have HF := Lib.hid fun W => first_any s n W hs hn
  generalize fi s.size n = m at *
  obtain ⟨l, hl⟩ : ∃ l, s.data.toList = l := ⟨_, rfl⟩
  rw [hl]
  have HLs := Lib.hid hl; clear hl
  go_enter Try.func21, Try.ntmps21
  go_wp2_with fail
  refine (bitsOf_any _ _).mono ?_
  rintro e w1 ⟨b, rfl, hb1, hb2, hc, hbel⟩
  have HB := Lib.hid hbel; clear hbel
  have HC := Lib.hid hc; clear hc
  go_wp2_with fail
  refine (HF.out _).mono ?_
  rintro e w2 ⟨rfl, rfl⟩
  clear HF
  obtain ⟨B, hB⟩ : ∃ B, w1.heap.size = B := ⟨_, rfl⟩
  rw [hB] at hb2
  have HBs := Lib.hid hB; clear hB
  go_wp2
  go_loopw [6, 13] (fun v i wr => ∃ (k : Nat) (R : List (Nat × Nat)), k ≤ m ∧ i = .int .i64 k ∧ Hid (R = rs l k) ∧ Hid (OwnX B wr v R) ∧ Hid (Below B w1 wr)) (fun _ i _ => m - (intOf i).toNat)
  case atStart => exact ⟨0, [], Nat.zero_le _, rfl, rfl, OwnX.nil _ _, Below.refl _ _⟩
  case round =>
    obtain ⟨k, R, hk, rfl, HR, HO, HW⟩ := hrel
    have hlen : R.length ≤ k := by rw [HR.out]; exact rs_len _ _
    obtain ⟨ao, c, rfl⟩ := HO.out.form
    have HC2 : Hid (wr.cell? ⟨b, 0, none⟩ = some (.string s)) := (HW.out.cell (p := ⟨b, 0, none⟩) hb2).trans HC.out
    by_cases hlt : k < m
    · have HC1 := Lib.hid fun h => bits1_any s k b wr hs h HC2.out
      rw [gb_nat, HLs.out] at HC1
      cases hbt : bt l k
      · have HBT := Lib.hid hbt
        rw [hbt] at HC1
        clear hbt
        by_cases hk0 : k = 0
        · subst hk0
          have HN := Lib.hid (rs_new HBT.out (.inl rfl))
          rw [← HR.out] at HN
          go_wp2_with fail
          refine (HC1.out (by omega)).mono ?_
          rintro e w2 ⟨rfl, q, rfl⟩
          clear HC1
          have HWx : Hid (Below B w1 (wr.drewN q)) := below_drewN HW.out _
          have HOx : Hid (OwnX B ((wr.drewN q)) (.slice ao R.length c) R) := HO.out
          clear HO HW HC2
          generalize (wr.drewN q) = wx at *
          have hbx : B ≤ wx.heap.size := by rw [← HBs.out]; exact HWx.out.size
          go_wp2_with (at_builtin; (refine wpList_append_own _ rfl _ _ 32 rfl B 36 i0 _ 2 16 Try.underlying32 hi hz0 hz1 HZ2.out rfl (by decide) _ R.length (flatX R) rfl (HOx.out.alloc _) _ 1 1 [.int .i64 (0 : Int), .int .i64 0] rfl rfl (two_cells (by simp)) two_one ?c23 ?c24 ?c25 ?_))
          case c23 => unfold maxLen; omega
          case c24 => omega
          case c25 => simp; omega
          intro v1 w3 hown hgrow _
          have HO3 : Hid (OwnX B w3 v1 (R ++ [(0, 0)])) := OwnX.push hown
          have HW3 : Hid (Below B w1 w3) := (HWx.out.alloc hbx _).grown hgrow (by simp; omega) (fun q hq => (HOx.out.lt q hq).1)
          clear hown hgrow
          obtain ⟨g, cap, rfl, hgB, hcl, hfr, ho4⟩ := HO3.out.last
          have HO4 := Lib.hid ho4; clear ho4
          go_wp2
          go_roundw
          case rel => exact ⟨0 + 1, _, by omega, by go_num, HN.out.symm, HO4.out, HW3.out.setCell hgB _⟩
          case measure => simp [intOf]; omega
        · have HC3 := Lib.hid fun h q => bits1_any s ((k : Int) - 1) b (wr.drewN q) hs h HC2.out
          rw [show ((k : Int) - 1) = ((k - 1 : Nat) : Int) by omega, gb_nat, HLs.out, show ((k - 1 : Nat) : Int) = (k : Int) - 1 by omega] at HC3
          have hk1 : ((k : Int) == 0) = false := beq_eq_false_iff_ne.2 (by omega)
          cases hbp : bt l (k - 1)
          · obtain ⟨R0, s0, c0, h1, h2, h3⟩ := rs_more HBT.out (by omega) hbp
            rw [hbp] at HC3
            have HN := Lib.hid h3
            have HRe : R = R0 ++ [(s0, c0)] := by rw [HR.out]; exact h1
            subst HRe
            clear hbp h1 h3
            have hx : c0 ≤ k := by omega
            obtain ⟨g, cap, hv, hgB, hcl, hfr, ho4⟩ := HO.out.last
            have HO4 := Lib.hid ho4; clear ho4
            have HV := Lib.hid hv
            rw [hv] at HO4 ⊢
            clear hv HO
            have hl0 : R0.length ≤ k := by simp at hlen; omega
            go_wp2_with fail
            refine (HC1.out (by omega)).mono ?_
            rintro e w2 ⟨rfl, q, rfl⟩
            clear HC1
            go_wp2_with fail
            refine (HC3.out (by omega) q).mono ?_
            rintro e w2 ⟨rfl, q2, rfl⟩
            clear HC3
            go_wp2
            go_roundw
            case rel => exact ⟨k + 1, _, by omega, by go_num, HN.out.symm, HO4.out, (below_drewN HW.out _).setCell (p := ⟨g, R0.length * 2 + 1, none⟩) hgB _⟩
            case measure => simp [intOf]; omega
          · have HN := Lib.hid (rs_new HBT.out (.inr hbp))
            rw [hbp] at HC3
            rw [← HR.out] at HN
            clear hbp
            go_wp2_with fail
            refine (HC1.out (by omega)).mono ?_
            rintro e w2 ⟨rfl, q, rfl⟩
            clear HC1
            go_wp2_with fail
            refine (HC3.out (by omega) q).mono ?_
            rintro e w2 ⟨rfl, q2, rfl⟩
            clear HC3
            have HWx : Hid (Below B w1 ((wr.drewN q).drewN q2)) := below_drewN (below_drewN HW.out _) _
            have HOx : Hid (OwnX B (((wr.drewN q).drewN q2)) (.slice ao R.length c) R) := HO.out
            clear HO HW HC2
            generalize ((wr.drewN q).drewN q2) = wx at *
            have hbx : B ≤ wx.heap.size := by rw [← HBs.out]; exact HWx.out.size
            go_wp2_with (at_builtin; (refine wpList_append_own _ rfl _ _ 32 rfl B 36 i0 _ 2 16 Try.underlying32 hi hz0 hz1 HZ2.out rfl (by decide) _ R.length (flatX R) rfl (HOx.out.alloc _) _ 1 1 [.int .i64 (k : Int), .int .i64 0] rfl rfl (two_cells (by simp)) two_one ?c13 ?c14 ?c15 ?_))
            case c13 => unfold maxLen; omega
            case c14 => omega
            case c15 => simp; omega
            intro v1 w3 hown hgrow _
            have HO3 : Hid (OwnX B w3 v1 (R ++ [(k, 0)])) := OwnX.push hown
            have HW3 : Hid (Below B w1 w3) := (HWx.out.alloc hbx _).grown hgrow (by simp; omega) (fun q hq => (HOx.out.lt q hq).1)
            clear hown hgrow
            obtain ⟨g, cap, rfl, hgB, hcl, hfr, ho4⟩ := HO3.out.last
            have HO4 := Lib.hid ho4; clear ho4
            go_wp2
            go_roundw
            case rel => exact ⟨k + 1, _, by omega, by go_num, HN.out.symm, HO4.out, HW3.out.setCell hgB _⟩
            case measure => simp [intOf]; omega
      · have HN := Lib.hid (rs_used hbt)
        rw [hbt] at HC1
        clear hbt
        go_wp2_with (go_at_call 36; refine (HC1.out (by omega)).mono ?_; rintro e w2 ⟨rfl, q, rfl⟩)
        go_roundw
        case rel => exact ⟨k + 1, R, by omega, by go_num, by show _ = _; rw [HN.out]; exact HR.out, HO.out, below_drewN HW.out _⟩
        case measure => simp [intOf]; omega
    · obtain rfl : k = m := by omega
      go_wp2
      go_ret
      exact ⟨_, rfl, by rw [← HR.out]; exact HO.out.sl, HB.out.trans (HW.out.mono (by rw [← HBs.out]; exact HB.out.size))⟩
end Go.Proofs.Ytlhhmdpfggefgaa
