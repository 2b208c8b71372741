/- TokenFolds: the walk. -/
import Derived.Test.YtbblmpibekkbfaaDoorTWalks
import Derived.Test.YtbblmpibekkbfaaDoorTFoldM
namespace Go.Proofs.YtbblmpibekkbfaaDoor
open Go.RowKit

set_option maxRecDepth 100000 in
set_option maxHeartbeats 4000000 in
theorem tokfolds_walk (s : ByteArray) (w : World) (hT : TabsT w) (hs : s.size ≤ maxLen) : Calls Tryd.prog 4 #[.string s] w fun e w' => e = .returned (.bool true) ∧ Below w.heap.size w w' := by
  have HT := Lib.hid hT
  clear hT
  have CS := Lib.hid (shown11_any w HT.out)
  unfold maxLen at hs
  by_cases h1 : s.size ≤ 1500
  · have C0 := Lib.hid (fun (T : ByteArray) W (hW : Below w.heap.size w W) (hz : T.size ≤ 10000) => ptokens_any T W (HT.out.below hW) hz)
    have C3 := Lib.hid (fun W hW => pterms_any s W (HT.out.below hW) (by omega))
    have CF := Lib.hid (fun W hW => pfoldedT_any s W (HT.out.below hW) (by omega))
    have D1 := Lib.hid (fun va vb W h1 h2 => sameK_any (tokL s) va vb W h1 h2 (by have := tokL_len s; omega))
    have HFold := Lib.hid (tokL_fold s)
    have HFl : Hid ((utxt (foldedL s.data.toList)).size ≤ 10000) := by
      show _ ≤ _
      have := folded_lenT s.data.toList
      rw [data_len] at this
      rw [utxt_size]; omega
    have HAt : Hid (∀ (j : Nat) (x : ByteArray × Int), (tokL s)[j]? = some x → tokL x.1 = [(x.1, 0)] ∧ x.1.size ≤ 40 ∧ (j : Int) ≤ x.2 ∧ x.2 ≤ (s.size : Int)) := fun j x hx => by
      obtain ⟨hj, rfl⟩ := List.getElem?_eq_some_iff.1 hx
      obtain ⟨a1, a2, a3, a4, _⟩ := tokL_at s j hj
      exact ⟨a1, a2, a3, a4⟩
    have HUp : Hid (∀ (j : Nat) (a b : ByteArray × Int), 0 < j → (tokL s)[j - 1]? = some a → (tokL s)[j]? = some b → a.2 < b.2) := fun j a b h0 ha hb => by
      obtain ⟨hj, rfl⟩ := List.getElem?_eq_some_iff.1 hb
      obtain ⟨_, rfl⟩ := List.getElem?_eq_some_iff.1 ha
      exact (tokL_at s j hj).2.2.2.2 h0
    have HRi : Hid (∀ (i : Nat) (a b : ByteArray), 0 < i → (trmL s)[i - 1]? = some a → (trmL s)[i]? = some b → lessT a b = true) := fun i a b h0 ha hb => by
      obtain ⟨hi, rfl⟩ := List.getElem?_eq_some_iff.1 hb
      obtain ⟨_, rfl⟩ := List.getElem?_eq_some_iff.1 ha
      exact trmL_rise s i h0 hi
    have hkl := tokL_len s
    have htl := trmL_len s
    have htk : (trmL s).length ≤ (tokL s).length := termsL_len _
    have C1 := Lib.hid (C0.out s)
    generalize tokL s = LK at *
    generalize trmL s = LT at *
    generalize utxt (foldedL s.data.toList) = X at *
    go_enter Tryd.func4, Tryd.ntmps4
    go_wp2_with fail
    refine CS.out.mono ?_
    rintro e w1 ⟨rfl, hb⟩
    have H1 := Lib.hid hb
    clear hb
    go_wp2_with fail
    refine (C1.out _ H1.out (by omega)).mono ?_
    rintro e w2 ⟨v2, rfl, hr, _, hb⟩
    have H2 := Lib.hid (below_nextT H1.out hb)
    have R2 := Lib.hid hr
    clear hb hr
    go_wp2_with fail
    refine (CF.out _ H2.out).mono ?_
    rintro e w3 ⟨rfl, hb⟩
    have H3 := Lib.hid (below_nextT H2.out hb)
    have R3 := Lib.hid (R2.out.below hb)
    clear hb
    go_wp2_with fail
    refine (C0.out _ _ H3.out HFl.out).mono ?_
    rintro e w4 ⟨v4, rfl, hr, _, hb⟩
    have H4 := Lib.hid (below_nextT H3.out hb)
    have R4 := Lib.hid (R3.out.below hb)
    rw [HFold.out] at hr
    have R4' := Lib.hid hr
    clear hb hr
    go_wp2_with fail
    refine (D1.out _ _ _ R4'.out R4.out).mono ?_
    rintro e w5 ⟨rfl, hb⟩
    have H5 := Lib.hid (below_nextT H4.out hb)
    have R5 := Lib.hid (R4.out.below hb)
    clear hb D1 HFold CF HFl CS C1
    obtain ⟨ao, c, rfl, hcell⟩ := R5.out
    have HC := Lib.hid hcell
    clear hcell
    go_wp2_with fail
    go_loopw [5, 6] (fun iv ov wr => ∃ i : Nat, iv = .int .i64 (i : Int) ∧ i ≤ LK.length ∧ Hid (Below w5.heap.size w5 wr)) (fun iv _ _ => LK.length - (intOf iv).toNat)
    case atStart => exact ⟨0, rfl, Nat.zero_le _, Below.refl _ _⟩
    case round =>
      obtain ⟨i, rfl, hi, HB⟩ := hrel
      by_cases hlt : i < LK.length
      · have hil : ((i : Nat) : Int) < LK.length := by omega
        obtain ⟨g, off, rfl, hg, c0, c1⟩ := HC.out i hlt
        obtain ⟨a1, a2, a3, a4⟩ := HAt.out i LK[i] (List.getElem?_eq_getElem hlt)
        have a5 : ∀ h : 0 < i, LK[i - 1].2 < LK[i].2 := fun h => HUp.out i _ _ h (List.getElem?_eq_getElem (by omega)) (List.getElem?_eq_getElem hlt)
        have x0 := (HB.out.cell (p := ⟨g, _, none⟩) hg).trans c0
        have x1 := (HB.out.cell (p := ⟨g, _, none⟩) hg).trans c1
        have HA1 := Lib.hid a1
        have hgr : g < wr.heap.size := Nat.lt_of_lt_of_le hg HB.out.size
        have HPr : Hid (0 < i → ∃ q : Int, wr.cell? ⟨g, off + (i - 1) * 2 + 1, none⟩ = some (.int .i64 q) ∧ q < LK[i].2) := fun h => by
          obtain ⟨g', off', e, _, _, c3⟩ := HC.out (i - 1) (by omega)
          obtain ⟨rfl, rfl⟩ : g = g' ∧ off = off' := by simpa using e
          exact ⟨_, (HB.out.cell (p := ⟨g, _, none⟩) hg).trans c3, a5 h⟩
        clear c0 c1 a1 a5
        generalize LK[i].1 = T at *
        generalize LK[i].2 = p at *
        have CT := Lib.hid (fun W (hW : Below wr.heap.size wr W) => C0.out T W (H5.out.trans ((HB.out.trans (hW.mono HB.out.size)).mono H5.out.size)) (by omega))
        rw [HA1.out] at CT
        have DT := Lib.hid (fun va vb W h1 h2 => sameK_any [(T, 0)] va vb W h1 h2 (by simp))
        have HHo : Hid (∀ W, Below wr.heap.size wr W → Below wr.heap.size wr W ∧ W.cell? ⟨g, off + i * 2, none⟩ = some (.string T)) := fun W hW => ⟨hW, (hW.cell (p := ⟨g, _, none⟩) hgr).trans x0⟩
        go_wp2_with fail
        go_region_held3 (fun W => Below wr.heap.size wr W ∧ W.cell? ⟨g, off + i * 2, none⟩ = some (.string T))
          (first | assumption | exact HHo.out _ ((Below.refl _ _).drew) | exact HHo.out _ (((Below.refl _ _).alloc (Nat.le_refl _) _).drew) | exact HHo.out _ (hba.alloc hba.size _))
          (first
            | (go_at_call 10; refine (CT.out _ ((Below.refl _ _).drew)).mono ?_; rintro e wa ⟨va, rfl, hva, _, hb'⟩; have hba := below_nextT ((Below.refl wr.heap.size wr).drew) hb'; have hsa := HHo.out _ hba)
            | (go_at_call 10; refine (CT.out _ (((Below.refl _ _).alloc (Nat.le_refl _) _).drew)).mono ?_; rintro e wa ⟨va, rfl, hva, _, hb'⟩; have hba := below_nextT (((Below.refl wr.heap.size wr).alloc (Nat.le_refl _) (.cells #[.string T, .int .i64 0] 32)).drew) hb'; have hsa := HHo.out _ hba; have hlit : RdK wa (.slice (some ⟨wr.heap.size, 0, none⟩) 1 1) [(T, 0)] := ((lit_rdK (w := wr) (t := 32) [(T, 0)] rfl rfl).below (Below.refl _ _).drew).below hb')
            | (go_at_call 9; refine (DT.out _ _ _ hva hlit).mono ?_; rintro e wb ⟨rfl, hb2⟩; have hbb := below_nextT hba hb2; have hsb := HHo.out _ hbb)
            | (go_at_call 9; refine (DT.out _ _ _ (hva.below (below_lit _)) (lit_rdK _ rfl rfl)).mono ?_; rintro e wb ⟨rfl, hb2⟩; have hbb := below_nextT (hba.alloc hba.size _) hb2; have hsb := HHo.out _ hbb))
        all_goals
          have HB2 : Hid (Below w5.heap.size w5 wb) := HB.out.trans (hbb.mono HB.out.size)
          have y0 := (hbb.cell (p := ⟨g, _, none⟩) hgr).trans x0
          have y1 := (hbb.cell (p := ⟨g, _, none⟩) hgr).trans x1
          have HPr2 : Hid (0 < i → ∃ q : Int, wb.cell? ⟨g, off + (i - 1) * 2 + 1, none⟩ = some (.int .i64 q) ∧ q < p) := fun h => by
            obtain ⟨q, z, hq⟩ := HPr.out h
            exact ⟨q, (hbb.cell (p := ⟨g, _, none⟩) hgr).trans z, hq⟩
          clear hbb hb2 hsb hsa hba hb' hva HPr x0 x1 CT DT HHo HA1
          have hz40 : decide ((40 : Int) < (T.size : Int)) = false := decide_eq_false (by omega)
          have hpi : decide (p < (i : Int)) = false := decide_eq_false (by omega)
          have hin : 0 ≤ (i : Int) := by omega
          have hiT : (i : Int).toNat = i := rfl
          by_cases h0 : 0 < i
          · obtain ⟨q, z1, hq⟩ := HPr2.out h0
            have g0 : (0 : Int) < (i : Int) := by omega
            have g1 : 0 ≤ (i : Int) - 1 := by omega
            have g2 : (i : Int) - 1 < LK.length := by omega
            have g3 : ((i : Int) - 1).toNat = i - 1 := by omega
            have g4 : IntKind.i64.wrap ((i : Int) - 1) = (i : Int) - 1 := IntWalk.i64_in _ (by omega)
            have g5 : decide (p ≤ q) = false := decide_eq_false (by omega)
            go_wp2_with fail
            go_quiet (fail)
            have HBn : Hid (Below w5.heap.size w5 (wb.drewN nq)) := by have := HB2.out; exact ⟨this.os, this.tape, this.output, this.size, this.block⟩
            clear hz40 hpi
            go_wp2_with fail
            go_roundw
            case rel => exact ⟨i + 1, by go_num, by omega, HBn⟩
            case measure => simp [intOf]; omega
          · have g0 : decide ((0 : Int) < (i : Int)) = false := decide_eq_false (by omega)
            go_wp2_with fail
            go_quiet (fail)
            have HBn : Hid (Below w5.heap.size w5 (wb.drewN nq)) := by have := HB2.out; exact ⟨this.os, this.tape, this.output, this.size, this.block⟩
            clear hz40 hpi
            go_wp2_with fail
            go_roundw
            case rel => exact ⟨i + 1, by go_num, by omega, HBn⟩
            case measure => simp [intOf]; omega
      · obtain rfl : i = LK.length := by omega
        have H6 : Hid (Below w.heap.size w wr) := H5.out.trans (HB.out.mono H5.out.size)
        have hkt : LT.length ≤ LK.length := htk
        have hlt0 : LT.length ≤ 1500 := by omega
        clear HAt HUp HC hi hlt C0 hkl htl htk
        generalize LK.length = nk at *
        go_wp2_with fail
        refine (C3.out _ H6.out).mono ?_
        rintro e w7 ⟨v7, rfl, hr, hb⟩
        have H7 := Lib.hid (below_nextT H6.out hb)
        obtain ⟨ao7, c7, rfl, hcell⟩ := hr
        have HC7 := Lib.hid hcell
        clear hcell hb H6 HB C3
        go_wp2_with fail
        go_loopw [8] (fun kv wk => ∃ k : Nat, kv = .int .i64 ((k : Int) + 1) ∧ (k = 0 ∨ k < LT.length) ∧ Hid (Below w7.heap.size w7 wk)) (fun kv _ => LT.length + 1 - (intOf kv).toNat)
        case atStart => exact ⟨0, rfl, .inl rfl, Below.refl _ _⟩
        case round =>
          obtain ⟨k, rfl, hk, HB⟩ := hrel
          have h5 : 0 ≤ (k : Int) := by omega
          have h6 : (k : Int).toNat = k := rfl
          have h7 : 0 ≤ (k : Int) + 1 := by omega
          have h8 : ((k : Int) + 1).toNat = k + 1 := by omega
          have h9 : (k : Int) + 1 - 1 = (k : Int) := by omega
          by_cases hk1 : k + 1 < LT.length
          · have hkz : (k : Int) + 1 < (LT.length : Int) := by omega
            have hkz2 : (k : Int) < (LT.length : Int) := by omega
            obtain ⟨g, off, rfl, hg, c0⟩ := HC7.out k (by omega)
            obtain ⟨g', off', e, _, c1⟩ := HC7.out (k + 1) hk1
            obtain ⟨rfl, rfl⟩ : g = g' ∧ off = off' := by simpa using e
            have x0 := (HB.out.cell (p := ⟨g, _, none⟩) hg).trans c0
            have x1 := (HB.out.cell (p := ⟨g, _, none⟩) hg).trans c1
            have hle : Op.bytesLess LT[k].toList LT[k + 1].toList = true := HRi.out (k + 1) _ _ (by omega) (List.getElem?_eq_getElem (by omega)) (List.getElem?_eq_getElem hk1)
            clear c0 c1 e hg
            generalize LT[k] = A at *
            generalize LT[k + 1] = B at *
            have hle2 : Op.bytesLess B.toList A.toList = false := by
              cases e : Op.bytesLess B.toList A.toList with
              | false => rfl
              | true => have h : Op.bytesLess A.toList A.toList = true := blT_trans _ _ _ hle e
                        rw [blT_irr] at h; cases h
            have hne2 : (B.toList == A.toList) = false := beq_eq_false_iff_ne.2 fun e => by rw [e, blT_irr] at hle; cases hle
            go_wp2_with fail
            go_quiet (fail)
            have HBn : Hid (Below w7.heap.size w7 (wr.drewN nq)) := by have := HB.out; exact ⟨this.os, this.tape, this.output, this.size, this.block⟩
            clear x0 x1
            go_wp2_with fail
            go_roundw
            case rel => exact ⟨k + 1, by go_num, by omega, HBn⟩
            case measure => simp [intOf]; omega
          · have hkz : ¬ (k : Int) + 1 < (LT.length : Int) := by omega
            go_wp2_with fail
            go_ret
            exact ⟨rfl, H7.out.trans (HB.out.mono H7.out.size)⟩
  · go_enter Tryd.func4, Tryd.ntmps4
    go_wp2_with fail
    refine CS.out.mono ?_
    rintro e w1 ⟨rfl, hb⟩
    have H1 := Lib.hid hb
    clear hb
    go_wp2
    go_ret
    exact ⟨rfl, H1.out⟩
end Go.Proofs.YtbblmpibekkbfaaDoor
