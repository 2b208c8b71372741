/- What the document's own head and Pack answer: the same. -/
import Derived.Test.YtepfcaopboenpaaGreatZFBase
import Derived.Test.YtepfcaopboenpaaGreatZWCrc

namespace Go.Proofs.YtepfcaopboenpaaGreat.Fr
open Go.RowKit

set_option maxRecDepth 100000 in
set_option maxHeartbeats 2000000 in
theorem rbeg_any (seq : Nat) (L : List (Int × ByteArray)) (b off c : Nat) (w : World) (hseq : seq < 18446744073709551616) (h1 : 1 ≤ L.length) (h2 : L.length ≤ 48) (hw : ∀ x ∈ L, WrOk x) (hb : b < w.heap.size) (hcs : WritesAt w b off L) :
    Calls Tryz.prog 69 #[.int .u64 (seq : Int), .slice (some ⟨b, off, none⟩) L.length c] w fun e w' => e = .returned (.string (bs (headL seq L))) ∧ Below w.heap.size w w' := by
  obtain ⟨i0, hi, hz0, hz1, hz2⟩ := info_parts Tryz.infoB
  have HZ2 := Lib.hid hz2; clear hz2
  have HC := Lib.hid hcs; clear hcs
  have HW := Lib.hid hw; clear hw
  obtain ⟨n, hn⟩ : ∃ n, L.length = n := ⟨_, rfl⟩
  rw [hn] at h1 h2 ⊢
  have HN := Lib.hid hn; clear hn
  obtain ⟨t1, z1, H1⟩ := fix_name (seq % 4294967296)
  obtain ⟨t2, z2, H2⟩ := fix_name (seq / 4294967296)
  obtain ⟨t3, z3, H3⟩ := fix_name n
  go_enter Tryz.func69, Tryz.ntmps69
  go_wp2_with fail
  refine (rfixed_to _ _ _ _ (by omega) (by omega) H1).mono ?_
  rintro e w2 ⟨rfl, hb2⟩
  have HB2 := Lib.hid hb2; clear hb2
  go_wp2_with fail
  refine (rfixed_to _ _ _ _ (by omega) (by omega) H2).mono ?_
  rintro e w3 ⟨rfl, hb3⟩
  have HB3 := Lib.hid hb3; clear hb3
  go_wp2_with fail
  refine (rfixed_to _ _ _ _ (by omega) (by omega) H3).mono ?_
  rintro e w4 ⟨rfl, hb4⟩
  have HB4 : Hid (Below w.heap.size w w4) := by
    have s2 := HB2.out.size; have s3 := HB3.out.size
    exact HB2.out.trans ((HB3.out.mono (by omega)).trans (hb4.mono (by omega)))
  clear hb4 HB2 HB3
  have HS : Hid (⟨#[67, 68, 88, 84]⟩ ++ t1 ++ t2 ++ t3 = bs (begL seq n [])) := by
    show ((bs cdxt ++ t1) ++ t2) ++ t3 = _
    rw [← H1.out, ← H2.out, ← H3.out, bs_append, bs_append, bs_append]
    unfold begL numsL
    simp only [List.append_assoc, List.flatMap_nil, List.append_nil]
  go_wp2_with fail
  go_loopw [5, 6] (fun t i wr => ∃ k T, k ≤ n ∧ i = .int .i64 ((k : Nat) : Int) ∧ t = .string T ∧ T.size ≤ 16 + 4 * k ∧ 16 + 4 * k ≤ T.size ∧ Hid (T = bs (begL seq n (L.take k))) ∧ Hid (Below w.heap.size w wr)) (fun _ i _ => n - (intOf i).toNat)
  case atStart =>
    have e : (⟨#[67, 68, 88, 84]⟩ ++ t1 ++ t2 ++ t3 : ByteArray).size = 16 := by rw [HS.out, bs_len, begL_len]; rfl
    exact ⟨0, _, Nat.zero_le _, rfl, rfl, by omega, by omega, HS, HB4⟩
  case round =>
    clear HS HB4
    obtain ⟨k, T, hk, rfl, rfl, hT1, hT2, HT, HB⟩ := hrel
    have hbr := HB.out.size
    by_cases hlt : k < n
    · have hkL : k < L.length := by rw [HN.out]; exact hlt
      obtain ⟨c0, c1⟩ := (HC.out.below HB.out hb) k hkL
      obtain ⟨x0, x1, _⟩ := HW.out L[k] (List.getElem_mem hkL)
      obtain ⟨t, z, HF⟩ := fix_name L[k].1.toNat
      have HT2 : Hid (T ++ t = bs (begL seq n (L.take (k + 1)))) := by
        show T ++ t = _
        rw [HT.out, ← HF.out, bs_append, begL_snoc seq n L k hkL]
      have z4 : 4 ≤ t.size := by rw [← HF.out]; exact Nat.le_refl _
      generalize L[k] = p at *
      obtain ⟨pb, pd⟩ := p
      simp only at c0 c1 x0 x1 HF
      go_wp2_with fail
      refine (rfixed_to _ _ _ _ (by omega) (by omega) HF).mono ?_
      rintro e w5 ⟨rfl, hb5⟩
      have HB5 : Hid (Below w.heap.size w w5) := HB.out.trans (hb5.mono hbr)
      clear hb5
      go_wp2
      go_roundw
      case rel => exact ⟨k + 1, _, by omega, by go_num, rfl, by simp; omega, by simp; omega, HT2, HB5⟩
      case measure => simp [intOf]; omega
    · have hkn : k = n := by omega
      subst hkn
      have HX : Hid (T ++ bs (List.replicate (232 - 4 * k) 0) = bs (headL seq L)) := by
        show _ = _
        rw [HT.out, bs_append, List.take_of_length_le (by rw [HN.out]; exact Nat.le_refl _)]
        unfold headL
        rw [HN.out, show 248 - (16 + 4 * k) = 232 - 4 * k by omega]
      have hzs : (bs (List.replicate (232 - 4 * k) 0)).size ≤ 232 := by rw [bs_len, List.length_replicate]; omega
      clear HT
      obtain ⟨m, hm⟩ : ∃ m, 232 - 4 * k = m := ⟨_, rfl⟩
      rw [hm] at HX hzs
      have hm2 : m ≤ 232 := by omega
      have hmT : 248 - (T.size : Int) = (m : Int) := by omega
      have HMT := Lib.hid hmT; clear hmT
      clear hm
      go_wp2_with (at_make; refine wpList_make_full _ rfl _ _ 92 rfl wr.heap.size 5 i0 (.int .u8 0) 1 Tryz.underlying92 hi hz0 hz1 _ _ _ _ m rfl rfl HMT.out HMT.out (by rw [HZ2.out]; omega) (by unfold maxLen; omega) (Nat.le_refl _) ?_)
      intro w1 hown hgrow
      rw [toList_madeCells_one] at hown
      have hconv := zero_text hown
      have HB1 : Hid (Below w.heap.size w w1) := HB.out.grown hgrow hbr (fun k h => by cases h)
      clear hown hgrow
      obtain ⟨Z, hZ⟩ : ∃ Z, bs (List.replicate m 0) = Z := ⟨_, rfl⟩
      rw [hZ] at HX hzs hconv
      clear hZ
      go_wp2
      go_ret
      exact ⟨by rw [← HX.out]; rfl, HB1.out⟩

set_option maxRecDepth 100000 in
set_option maxHeartbeats 2000000 in
theorem rpack_many (seq : Nat) (ao : Option Addr) (n c : Nat) (w : World) (h : n = 0 ∨ 48 < n) (hm : n ≤ 1000) :
    Calls Tryz.prog 41 #[.int .u64 (seq : Int), .slice ao n c] w fun e w' => e = .returned (.tuple #[.slice none 0 0, .int .i64 6]) ∧ Below w.heap.size w w' := by
  rcases h with rfl | h
  · go_enter Tryz.func41, Tryz.ntmps41
    go_wp2
    go_ret2
    exact ⟨rfl, Below.refl _ _⟩
  · have h0 : ((n : Int) == 0) = false := beq_eq_false_iff_ne.2 (by omega)
    have h1 : (48 : Int) < (n : Int) := by omega
    go_enter Tryz.func41, Tryz.ntmps41
    go_wp2
    go_ret2
    exact ⟨rfl, Below.refl _ _⟩

set_option maxRecDepth 100000 in
set_option maxHeartbeats 2000000 in
theorem rpack_bad (seq : Nat) (L : List (Int × ByteArray)) (b off c : Nat) (w : World) (h1 : 1 ≤ L.length) (h2 : L.length ≤ 48) (hs : ∀ x ∈ L, x.2.size ≤ maxLen) (hcs : WritesAt w b off L) (hbad : chkL L ≠ 0) :
    Calls Tryz.prog 41 #[.int .u64 (seq : Int), .slice (some ⟨b, off, none⟩) L.length c] w fun e w' => e = .returned (.tuple #[.slice none 0 0, .int .i64 ((chkL L : Nat) : Int)]) ∧ Below w.heap.size w w' := by
  have HC := Lib.hid hcs; clear hcs
  have HS := Lib.hid hs; clear hs
  have HBAD := Lib.hid hbad; clear hbad
  obtain ⟨n, hn⟩ : ∃ n, L.length = n := ⟨_, rfl⟩
  rw [hn] at h1 h2 ⊢
  have HN := Lib.hid hn; clear hn
  have h0 : ((n : Int) == 0) = false := beq_eq_false_iff_ne.2 (by omega)
  have h3 : ¬ (48 : Int) < (n : Int) := by omega
  go_enter Tryz.func41, Tryz.ntmps41
  go_wp2
  go_loop [6, 7] (fun t i => ∃ k T, k ≤ n ∧ i = .int .i64 ((k : Nat) : Int) ∧ t = .string T ∧ T.size ≤ 256 * k ∧ Hid (chkL L = chkL (L.drop k))) (fun _ i => n - (intOf i).toNat)
  case atStart => exact ⟨0, _, Nat.zero_le _, rfl, rfl, Nat.le_refl _, rfl⟩
  case round =>
    obtain ⟨k, T, hk, rfl, rfl, hT, HK⟩ := hrel
    by_cases hlt : k < n
    · have hkL : k < L.length := by rw [HN.out]; exact hlt
      obtain ⟨c0, c1⟩ := HC.out k hkL
      have hsz := HS.out L[k] (List.getElem_mem hkL)
      unfold maxLen at hsz
      by_cases hx : chk1 L[k] = 0
      · obtain ⟨x0, x1, x2⟩ := (chk1_ok _).1 hx
        have HK2 : Hid (chkL L = chkL (L.drop (k + 1))) := by show _ = _; rw [HK.out, chkL_drop L k hkL hx]
        clear hx
        generalize L[k] = p at *
        obtain ⟨pb, pd⟩ := p
        simp only at c0 c1 x0 x1 x2 hsz
        have hne : ((pd.size : Int) != 256) = false := by simp; omega
        have hge : ¬ (4096 : Int) ≤ pb := by omega
        have hlt0 : ¬ pb < 0 := by omega
        have hps : pd.size ≤ 256 := by omega
        clear x0 x1 x2
        go_wp2
        go_round
        case rel => exact ⟨k + 1, _, by omega, by go_num, rfl, by simp; omega, HK2⟩
        case measure => simp [intOf]; omega
      · have HE := Lib.hid (show chkL L = chk1 L[k] by rw [HK.out, chkL_at L k hkL hx])
        generalize L[k] = p at *
        obtain ⟨pb, pd⟩ := p
        simp only at c0 c1 hsz
        unfold chk1 at hx HE
        simp only at hx HE
        by_cases hr : pb < 0 ∨ 4096 ≤ pb
        · rw [if_pos hr] at HE
          clear hx
          rcases hr with hr | hr
          · go_wp2
            go_ret2
            exact ⟨by rw [HE.out]; rfl, Below.refl _ _⟩
          · have hlt0 : ¬ pb < 0 := by omega
            go_wp2
            go_ret2
            exact ⟨by rw [HE.out]; rfl, Below.refl _ _⟩
        · rw [if_neg hr] at hx HE
          have hge : ¬ (4096 : Int) ≤ pb := by omega
          have hlt0 : ¬ pb < 0 := by omega
          clear hr
          by_cases hz : pd.size ≠ 256
          · rw [if_pos hz] at HE
            clear hx
            have hne : ((pd.size : Int) != 256) = true := by simp; omega
            clear hz
            go_wp2
            go_ret2
            exact ⟨by rw [HE.out]; rfl, Below.refl _ _⟩
          · rw [if_neg hz] at hx; exact absurd rfl hx
    · exfalso
      apply HBAD.out
      rw [HK.out, List.drop_of_length_le (by rw [HN.out]; omega)]; rfl

set_option maxRecDepth 100000 in
set_option maxHeartbeats 4000000 in
theorem rpack_yes (seq : Nat) (L : List (Int × ByteArray)) (b off c : Nat) (w : World) (hseq : seq < 18446744073709551616) (h1 : 1 ≤ L.length) (h2 : L.length ≤ 48) (hw : ∀ x ∈ L, WrOk x) (hb : b < w.heap.size) (hcs : WritesAt w b off L) :
    Calls Tryz.prog 41 #[.int .u64 (seq : Int), .slice (some ⟨b, off, none⟩) L.length c] w fun e w' => ∃ u, e = .returned (.tuple #[u, .int .i64 0]) ∧ OwnS w.heap.size w' u (packL seq L) ∧ Below w.heap.size w w' := by
  obtain ⟨i0, hi, hz0, hz1, hz2⟩ := info_parts Tryz.infoS
  have HZ2 := Lib.hid hz2; clear hz2
  have CB := Lib.hid (rbeg_any seq L b off c w hseq h1 h2 hw hb hcs)
  have hhl := headL_len seq L h2
  have HC := Lib.hid hcs; clear hcs
  have HW := Lib.hid hw; clear hw
  obtain ⟨n, hn⟩ : ∃ n, L.length = n := ⟨_, rfl⟩
  rw [hn] at h1 h2 CB ⊢
  have HN := Lib.hid hn; clear hn
  have HHL := Lib.hid hhl; clear hhl
  have h0 : ((n : Int) == 0) = false := beq_eq_false_iff_ne.2 (by omega)
  have h3 : ¬ (48 : Int) < (n : Int) := by omega
  go_enter Tryz.func41, Tryz.ntmps41
  go_wp2
  go_loop [6, 7] (fun t i => ∃ k T, k ≤ n ∧ i = .int .i64 ((k : Nat) : Int) ∧ t = .string T ∧ T.size ≤ 256 * k ∧ Hid (T = bs (joinB ((L.take k).map (·.2))))) (fun _ i => n - (intOf i).toNat)
  case atStart => exact ⟨0, _, Nat.zero_le _, rfl, rfl, Nat.le_refl _, rfl⟩
  case round =>
    obtain ⟨k, T, hk, rfl, rfl, hT, HT⟩ := hrel
    by_cases hlt : k < n
    · have hkL : k < L.length := by rw [HN.out]; exact hlt
      obtain ⟨c0, c1⟩ := HC.out k hkL
      obtain ⟨x0, x1, x2⟩ := HW.out L[k] (List.getElem_mem hkL)
      have HT2 := Lib.hid (bs_grow hkL HT.out)
      generalize L[k] = p at *
      obtain ⟨pb, pd⟩ := p
      simp only at c0 c1 x0 x1 x2 HT2
      have hne : ((pd.size : Int) != 256) = false := by simp; omega
      have hge : ¬ (4096 : Int) ≤ pb := by omega
      have hlt0 : ¬ pb < 0 := by omega
      have hps : pd.size ≤ 256 := by omega
      clear x0 x1 x2
      go_wp2
      go_round
      case rel => exact ⟨k + 1, _, by omega, by go_num, rfl, by simp; omega, HT2⟩
      case measure => simp [intOf]; omega
    · have hkn : k = n := by omega
      subst hkn
      have HT2 : Hid (T = bs (joinB (L.map (·.2)))) := by
        show T = _
        rw [HT.out, List.take_of_length_le (by rw [HN.out]; exact Nat.le_refl _)]
      clear HT
      have hXs : (bs (headL seq L)).size ≤ 248 := by rw [bs_len, HHL.out]; exact Nat.le_refl _
      obtain ⟨X, hX⟩ : ∃ X, bs (headL seq L) = X := ⟨_, rfl⟩
      rw [hX] at hXs CB
      have HX := Lib.hid hX; clear hX
      go_wp2_with fail
      refine CB.out.mono ?_
      rintro e w1 ⟨rfl, hb1⟩
      have HB1 := Lib.hid hb1; clear hb1 CB
      have CC := Lib.hid (rcrc_any (X ++ T) w1 (by simp; unfold maxLen; omega))
      have HJ : Hid ((X ++ T).data.toList = headL seq L ++ joinB (L.map (·.2))) := by
        show _ = _
        rw [← HX.out, HT2.out, bs_append, data_bs]
      rw [HJ.out] at CC
      obtain ⟨t4, z4, H4⟩ := fix_name (crcL (headL seq L ++ joinB (L.map (·.2))))
      have hsum := crcL_lt (headL seq L ++ joinB (L.map (·.2)))
      have HTOP : Hid (X ++ t4 ++ ⟨#[67, 68, 88, 69]⟩ = bs (topL seq L)) := by
        show X ++ t4 ++ bs cdxe = _
        rw [← HX.out, ← H4.out, bs_append, bs_append, List.append_assoc]; rfl
      generalize crcL (headL seq L ++ joinB (L.map (·.2))) = sm at *
      go_wp2_with fail
      refine CC.out.mono ?_
      rintro e w1' ⟨rfl, rfl⟩
      clear CC
      go_wp2_with fail
      refine (rfixed_to _ _ _ _ rfl hsum H4).mono ?_
      rintro e w2 ⟨rfl, hb2⟩
      have HB2 : Hid (Below w.heap.size w w2) := HB1.out.trans (hb2.mono HB1.out.size)
      clear hb2 HB1
      have hbr := HB2.out.size
      obtain ⟨Y, hY⟩ : ∃ Y, X ++ t4 ++ ⟨#[67, 68, 88, 69]⟩ = Y := ⟨_, rfl⟩
      rw [hY] at HTOP
      go_wp2_with fail
      have HO : Hid (OwnS w.heap.size (w2.alloc (.cells #[.string Y] 9)) (.slice (some ⟨w2.heap.size, 0, none⟩) 1 1) (Y :: (L.take 0).map (·.2))) :=
        World.ownsRow_lit w2 #[.string Y] 1 hbr (by unfold maxLen; omega) rfl
      have HBa : Hid (Below w.heap.size w (w2.alloc (.cells #[.string Y] 9))) := HB2.out.alloc hbr _
      clear HB2 hbr
      generalize w2.alloc (.cells #[.string Y] 9) = w6 at *
      generalize (.slice (some ⟨w2.heap.size, 0, none⟩) 1 1 : Value) = v6 at *
      go_loopw [9, 10] (fun fv i wr => ∃ j : Nat, j ≤ k ∧ i = .int .i64 j ∧ Hid (OwnS w.heap.size wr fv (Y :: (L.take j).map (·.2))) ∧ Hid (Below w.heap.size w wr)) (fun _ i _ => k - (intOf i).toNat)
      case atStart => exact ⟨0, Nat.zero_le _, rfl, HO, HBa⟩
      case round =>
        clear HO HBa
        obtain ⟨j, hj, rfl, HO, HB⟩ := hrel
        have hbr := HB.out.size
        by_cases hlt : j < k
        · have hkL : j < L.length := by rw [HN.out]; exact hlt
          obtain ⟨c0, c1⟩ := (HC.out.below HB.out hb) j hkL
          have HM := Lib.hid (map_snoc Y L j hkL)
          have hlen : (Y :: (L.take j).map (·.2)).length ≤ 49 := by simp; omega
          obtain ⟨M, hM⟩ : ∃ M, Y :: (L.take j).map (·.2) = M := ⟨_, rfl⟩
          rw [hM] at HO HM hlen
          clear hM
          generalize L[j] = p at *
          obtain ⟨pb, pd⟩ := p
          simp only at c0 c1 HM
          go_wp2_with (at_builtin; refine wpList_append_own _ rfl _ _ 60 rfl w.heap.size 9 i0 _ 1 16 Tryz.underlying60 hi hz0 hz1 HZ2.out rfl (by decide) _ _ _ rfl (HO.out.alloc _) _ 1 1 [.string pd] rfl rfl (one_cell (by simp)) one_one ?c3 ?c4 ?c5 ?_)
          case c3 => unfold maxLen; omega
          case c4 => omega
          case c5 => simp; omega
          intro v1 w1 hown hgrow _
          have HO1 : Hid (OwnS w.heap.size w1 v1 (Y :: (L.take (j + 1)).map (·.2))) := by
            show OwnS _ _ _ _
            rw [HM.out]; exact own_push hown
          have HB1 : Hid (Below w.heap.size w w1) := (HB.out.alloc hbr _).grown hgrow (by simp; omega) (fun q hq => (HO.out.lt q hq).1)
          clear hown hgrow
          go_wp2
          go_roundw
          case rel => exact ⟨j + 1, by omega, by go_num, HO1, HB1⟩
          case measure => simp [intOf]; omega
        · have HO2 : Hid (OwnS w.heap.size wr u9 (packL seq L)) := by
            have := HO.out
            rw [List.take_of_length_le (by rw [HN.out]; omega), HTOP.out] at this
            exact this
          clear HO
          go_wp2
          go_ret2
          exact ⟨_, rfl, HO2.out, HB.out⟩

theorem rpack_any (seq : Nat) (L : List (Int × ByteArray)) (v : Value) (w : World) (hseq : seq < 18446744073709551616) (hl : L.length ≤ 1000) (hs : ∀ x ∈ L, x.2.size ≤ maxLen) (h : SlW w v L) :
    Calls Tryz.prog 41 #[.int .u64 (seq : Int), v] w fun e w' => ∃ u, e = .returned (.tuple #[u, .int .i64 (((pk seq L).2 : Nat) : Int)]) ∧ OwnS w.heap.size w' u (pk seq L).1 ∧ Below w.heap.size w w' := by
  unfold pk
  by_cases hm : L.length = 0 ∨ 48 < L.length
  · have e : chk L = 6 := by unfold chk; rw [if_pos hm]
    rw [e, if_neg (by omega)]
    obtain ⟨ao, c, rfl, _⟩ := h
    exact (rpack_many seq ao _ c w hm hl).mono fun e w' ⟨he, hb⟩ => ⟨_, he, OwnS.nil _ _, hb⟩
  · have e : chk L = chkL L := by unfold chk; rw [if_neg hm]
    obtain ⟨b, off, c, rfl, _, hb, hc⟩ := h.here (by omega)
    rw [e]
    by_cases hx : chkL L = 0
    · rw [if_pos hx]
      exact rpack_yes seq L b off c w hseq (by omega) (by omega) ((chkL_ok L).1 hx) hb hc
    · rw [if_neg hx]
      exact (rpack_bad seq L b off c w (by omega) (by omega) hs hc hx).mono fun e w' ⟨he, hb⟩ => ⟨_, he, OwnS.nil _ _, hb⟩
end Go.Proofs.YtepfcaopboenpaaGreat.Fr
