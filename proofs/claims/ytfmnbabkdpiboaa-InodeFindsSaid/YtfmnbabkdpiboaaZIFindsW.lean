/- InodeFinds' walk. -/
import Derived.Test.YtfmnbabkdpiboaaZIUnp
import Derived.Test.YtfmnbabkdpiboaaZIBackW
import Derived.Test.YtfmnbabkdpiboaaZIOpen

namespace Go.Proofs.Ytfmnbabkdpiboaa
open Go.RowKit
open Fr (bs str_len below_drewN)

set_option maxRecDepth 100000 in
set_option maxHeartbeats 8000000 in
theorem finds_any (v : Value) (s : ByteArray) (L : List Fl) (w : World) (hL : FilesN w v L) (hs : s.size ≤ maxLen) : Calls Try.prog 7 #[v, .string s] w fun e w' => e = .returned (.bool true) ∧ Below w.heap.size w w' := by
  obtain ⟨⟨hsl, hn, hN⟩, hnil⟩ := hL
  have hn' : L.length ≤ 9223372036854775807 := by unfold maxLen at hn; omega
  unfold maxLen at hs
  have HSl := Lib.hid hsl
  obtain ⟨ao, c, hv, hat⟩ := hsl.shape
  subst hv
  have HAt := Lib.hid hat; clear hat hsl
  have HNil := Lib.hid hnil; clear hnil
  have CS := Lib.hid fun W => shown8_any W
  have CA := Lib.hid fun W (hW : Below w.heap.size w W) => as_any L (.slice ao L.length c) W (HSl.out.below hW) hn'
  have CR : Hid (∀ W, Below w.heap.size w W → Calls Try.prog 14 #[.slice ao L.length c, .int .i64 0, .int .i64 4096] W fun e w' => e = .returned (.bool (rtB L 0 4096)) ∧ Below W.heap.size W w') := fun W hW => right_any L _ 0 4096 W (HSl.out.below hW) hN hn' (by unfold I64; omega) (by unfold I64; omega)
  have HNu : Hid (Nums64 L) := hN
  clear hn hN
  obtain ⟨n, hl⟩ : ∃ n, L.length = n := ⟨_, rfl⟩
  have HN := Lib.hid hl
  rw [hl] at CA CR hn' HNil ⊢
  clear hl
  go_enter Try.func7, Try.ntmps7
  go_wp2_with fail
  refine (CS.out _).mono ?_
  rintro e w1 ⟨rfl, hb1⟩
  have HB1 := Lib.hid hb1; clear hb1
  go_wp2_with fail
  refine (CA.out _ HB1.out).mono ?_
  rintro e w2 ⟨v2, rfl, _, hb2⟩
  have HB2 : Hid (Below w.heap.size w w2) := HB1.out.trans (hb2.out.mono HB1.out.size)
  clear hb2 HB1 CA CS
  go_wp2_with fail
  refine (CR.out _ HB2.out).mono ?_
  rintro e w3 ⟨rfl, hb3⟩
  have HB3 : Hid (Below w.heap.size w w3) := HB2.out.trans (hb3.mono HB2.out.size)
  clear hb3 HB2 CR
  cases hok : asB L
  · go_wp2_with fail
    go_ret
    exact ⟨rfl, HB3.out⟩
  clear hok
  cases hr : rtB L 0 4096
  · go_wp2_with fail
    go_ret
    exact ⟨rfl, HB3.out⟩
  have HR := Lib.hid ((rtB_iff _ _ _).1 hr)
  clear hr
  have hn64 : n ≤ 64 := by have := HR.out.1; have := HN.out; omega
  by_cases s2 : 200 < s.size
  · have z2 : (200 : Int) < (s.size : Int) := by omega
    go_wp2_with fail
    go_ret
    exact ⟨rfl, HB3.out⟩
  have z2 : ¬ (200 : Int) < (s.size : Int) := by omega
  have CF := Lib.hid (find_any L (.slice ao L.length c) s w3 (HSl.out.below HB3.out) (by have := HN.out; omega) HR.out.2.rise)
  rw [HN.out] at CF
  go_wp2_with fail
  refine CF.out.mono ?_
  rintro e w4 ⟨k, rfl, HPl, hb4⟩
  have HB4 : Hid (Below w.heap.size w w4) := HB3.out.trans (hb4.out.mono HB3.out.size)
  clear hb4 HB3 CF
  have hkn : k ≤ n := by have := HPl.out.le; have := HN.out; omega
  have k0 : ¬ (k : Int) < 0 := by omega
  have k1 : ¬ (n : Int) < (k : Int) := by omega
  have HIn := Lib.hid fun (h1 : okName s = true) (h2 : L.length < 64) (h3 : isAtF L s k = false) => right_ins HR.out h1 h2 HPl.out h3
  have HIs : Hid (∀ (hk : k < L.length), isAtF L s k = ((L[k]).name.toList == s.toList)) := fun hk => by unfold isAtF; rw [List.getElem?_eq_getElem hk]
  have HIs2 : Hid (k = L.length → isAtF L s k = false) := fun hk => by unfold isAtF; rw [List.getElem?_eq_none (by omega)]
  generalize isAtF L s k = is at *
  go_wp2_with fail
  go_loopw [11] (fun iv wr => ∃ i : Nat, i ≤ n ∧ iv = .int .i64 (i : Int) ∧ Hid (Below w.heap.size w wr)) (fun iv _ => n - (intOf iv).toNat)
  case atStart => exact ⟨0, Nat.zero_le _, rfl, HB4⟩
  case round =>
    obtain ⟨i, hi, rfl, HBr⟩ := hrel
    clear HB4
    have hbr := HBr.out.size
    by_cases hlt : i < n
    · have hiz : (i : Int) < (n : Int) := by omega
      have hiL : i < L.length := by rw [HN.out]; exact hlt
      obtain ⟨bb, off, ve, rfl, hF, hSx⟩ := HAt.out _ HBr.out i hiL
      obtain ⟨x0, x1, x2, x3, hext⟩ := hF
      clear hext hSx x1 x2 x3
      have HLo : Hid (i < k → less (L[i]).name s = true) := fun h => HPl.out.lo i hiL h
      have HHi : Hid (k ≤ i → less (L[i]).name s = false) := fun h => HPl.out.hi i hiL h
      generalize (L[i]).name = nm at *
      clear hiL
      have hle : Op.bytesLess nm.toList s.toList = less nm s := rfl
      by_cases hik : i < k
      · have hik1 : (i : Int) < (k : Int) := by omega
        have hik2 : ¬ (k : Int) ≤ (i : Int) := by omega
        rw [HLo.out hik] at hle
        clear HLo HHi HIn HIs HIs2
        go_wp2_with fail
        go_roundw
        case rel => exact ⟨i + 1, by omega, by go_num, HBr⟩
        case measure => simp [intOf]; omega
      · have hik1 : ¬ (i : Int) < (k : Int) := by omega
        have hik2 : (k : Int) ≤ (i : Int) := by omega
        rw [HHi.out (by omega)] at hle
        clear HLo HHi HIn HIs HIs2
        go_wp2_with fail
        go_roundw
        case rel => exact ⟨i + 1, by omega, by go_num, HBr⟩
        case measure => simp [intOf]; omega
    · obtain rfl : i = n := by omega
      have hiz : ¬ (i : Int) < (i : Int) := by omega
      go_upto_region 14 with fail
      go_cut [12] (fun u12 wx => u12 = .bool is ∧ wx = wr)
      case first =>
        by_cases hk : k < i
        · have hkz : (k : Int) < (i : Int) := by omega
          have hkL : k < L.length := by rw [HN.out]; exact hk
          obtain ⟨bb, off, ve, rfl, hF, hSx⟩ := HAt.out _ HBr.out k hkL
          obtain ⟨x0, x1, x2, x3, hext⟩ := hF
          clear hext hSx x1 x2 x3
          have hq := HIs.out hkL
          generalize (L[k]).name = nm at *
          clear hkL HIn HIs HIs2
          subst hq
          go_wp2_with fail
          go_meet
          exact ⟨rfl, rfl⟩
        · have hkz : ¬ (k : Int) < (i : Int) := by omega
          have hq := HIs2.out (by have := HN.out; omega)
          subst hq
          clear HIn HIs HIs2
          go_wp2_with fail
          go_meet
          exact ⟨rfl, rfl⟩
      case rest =>
        obtain ⟨rfl, rfl⟩ := hcut
        clear HIs HIs2 HAt hiz
        cases is
        case true =>
          go_wp2_with fail
          go_ret
          exact ⟨rfl, HBr.out⟩
        have CN := Lib.hid fun W => name_any s W (by omega)
        cases hok : okName s
        · rw [hok] at CN
          go_wp2_with fail
          refine (CN.out _).mono ?_
          rintro e w6 ⟨rfl, rfl⟩
          go_wp2_with fail
          go_ret
          exact ⟨rfl, HBr.out⟩
        rw [hok] at CN
        by_cases h64 : 64 ≤ i
        · have z64 : (64 : Int) ≤ (i : Int) := by omega
          go_wp2_with fail
          refine (CN.out _).mono ?_
          rintro e w6 ⟨rfl, rfl⟩
          go_wp2_with fail
          go_ret
          exact ⟨rfl, HBr.out⟩
        have z64 : ¬ (64 : Int) ≤ (i : Int) := by omega
        have HRn := Lib.hid (HIn.out hok (by have := HN.out; omega) rfl)
        obtain ⟨P, hP, hE, hkc, hap1, hap2⟩ := finds_ap (X := wc) (B := wc.heap.size) (i := k) HSl.out (by rw [HN.out]; exact HNil.out) HBr.out (by have := HN.out; omega) (Nat.le_refl _) (by have := HN.out; omega)
        have HP := Lib.hid hP; have HE := Lib.hid hE
        rw [HN.out] at hap2
        have HA1 := Lib.hid hap1; have HA2 := Lib.hid hap2
        obtain ⟨rao, hrao⟩ : ∃ rao, (if c = k then ao else Option.map (fun x => x.add (k * 4)) ao) = rao := ⟨_, rfl⟩
        rw [hrao] at HA2
        obtain ⟨N1, hN1⟩ : ∃ N1, flatF (P.take k) = N1 := ⟨_, rfl⟩
        obtain ⟨N2, hN2⟩ : ∃ N2, flatF (P.drop k) = N2 := ⟨_, rfl⟩
        rw [hN1] at HA1
        rw [hN2] at HA2
        have HN1 := Lib.hid hN1; have HN2 := Lib.hid hN2
        clear hok HIn hP hE hap1 hap2 hN1 hN2
        obtain ⟨i0, hi0, hz0, hz1, hz2⟩ := info_parts Try.infoFl
        have HZ2 := Lib.hid hz2; clear hz2
        go_wp2_with fail
        refine (CN.out _).mono ?_
        rintro e w6 ⟨rfl, rfl⟩
        clear CN
        go_wp2_with fail
        go_region_law (first
          | (refine step_appF (w := (w6.alloc (.cells #[] 50)).drew) HA1.out rfl (.tmp 111) (.tmp 114) rfl (.slice (some ⟨w6.heap.size, 0, none⟩) 0 0) 0 [] (by kernel_rfl) (by kernel_rfl) ?hW (by omega) ?own ?_
             case hW => exact ((Below.refl _ _).alloc (Nat.le_refl _) _).drew
             case own => exact World.ownsRow_lit w6 #[] 0 (Nat.le_refl _) (Nat.zero_le _) rfl
             intro v1 w9 hown hgrow hwh
             rw [Nat.zero_add, List.nil_append] at hown
             obtain ⟨v1o, v1c, rfl⟩ := own_shapeE hown
             have HV1 := Lib.hid hown
             have HB9 : Hid (Below w6.heap.size w6 w9) := (((Below.refl _ _).alloc (Nat.le_refl _) _).drew).grown hgrow (by simp; try omega) (fun q hq => by cases hq; simp)
             clear hown hgrow hwh)
          | (refine step_appF (w := ((w6.alloc (.cells #[] 50)).alloc (.cells #[.string s, .bool false, .int .i64 0, .slice none 0 0] 50)).drew) HA1.out rfl (.tmp 111) (.tmp 114) rfl (.slice (some ⟨w6.heap.size, 0, none⟩) 0 0) 0 [] (by kernel_rfl) (by kernel_rfl) ?hW (by omega) ?own ?_
             case hW => exact (((Below.refl _ _).alloc (Nat.le_refl _) _).alloc (by simp) _).drew
             case own => exact World.ownsRow.alloc (World.ownsRow_lit w6 #[] 0 (Nat.le_refl _) (Nat.zero_le _) rfl) (.cells #[.string s, .bool false, .int .i64 0, .slice none 0 0] 50)
             intro v1 w9 hown hgrow hwh
             rw [Nat.zero_add, List.nil_append] at hown
             obtain ⟨v1o, v1c, rfl⟩ := own_shapeE hown
             have HV1 := Lib.hid hown
             have HB9 : Hid (Below w6.heap.size w6 w9) := ((((Below.refl _ _).alloc (Nat.le_refl _) _).alloc (by simp) _).drew).grown hgrow (by simp; try omega) (fun q hq => by cases hq; simp)
             have HOne2 : Hid (w9.heap[w6.heap.size + 1]? = some (.cells #[.string s, .bool false, .int .i64 0, .slice none 0 0] 50 (0, 0))) := (grown_block hgrow (by simp; try omega) (by simp [Value.ownBlock]; try omega)).trans (alloc2_new w6 (.cells #[] 50) (.cells #[.string s, .bool false, .int .i64 0, .slice none 0 0] 50))
             clear hown hgrow hwh)
          | (refine step_appF (w := ((w6.alloc (.cells #[.string s, .bool false, .int .i64 0, .slice none 0 0] 50)).alloc (.cells #[] 50)).drew) HA1.out rfl (.tmp 111) (.tmp 114) rfl (.slice (some ⟨w6.heap.size + 1, 0, none⟩) 0 0) 0 [] (by kernel_rfl) (by kernel_rfl) ?hW (by omega) ?own ?_
             case hW => exact (((Below.refl _ _).alloc (Nat.le_refl _) _).alloc (by simp) _).drew
             case own => exact own_lit1 w6 (.cells #[.string s, .bool false, .int .i64 0, .slice none 0 0] 50)
             intro v1 w9 hown hgrow hwh
             rw [Nat.zero_add, List.nil_append] at hown
             obtain ⟨v1o, v1c, rfl⟩ := own_shapeE hown
             have HV1 := Lib.hid hown
             have HB9 : Hid (Below w6.heap.size w6 w9) := ((((Below.refl _ _).alloc (Nat.le_refl _) _).alloc (by simp) _).drew).grown hgrow (by simp; try omega) (fun q hq => by cases hq; simp)
             have HOne3 : Hid (w9.heap[w6.heap.size]? = some (.cells #[.string s, .bool false, .int .i64 0, .slice none 0 0] 50 (0, 0))) := (grown_block hgrow (by simp; try omega) (by simp [Value.ownBlock]; try omega)).trans (alloc_keep (heap_alloc_new w6 (.cells #[.string s, .bool false, .int .i64 0, .slice none 0 0] 50)))
             clear hown hgrow hwh)
          | (refine step_append_own (w := w9.alloc (.cells #[.string s, .bool false, .int .i64 0, .slice none 0 0] 50)) rfl (.tmp 115) (.tmp 118) 22 rfl w6.heap.size 50 i0 (.agg #[.string ⟨#[]⟩, .bool false, .int .i64 0, .slice none 0 0]) 4 56 Try.underlying22 hi0 hz0 hz1 HZ2.out rfl (by omega) (.slice v1o k v1c) k N1 (by kernel_rfl) ?own ⟨w9.heap.size, 0, none⟩ 1 1 [.string s, .bool false, .int .i64 0, .slice none 0 0] (by kernel_rfl) rfl (four_cells (heap_alloc_new _ _)) (by simp [Value.oneCell']) (by unfold maxLen; omega) (by omega) ?base ?_
             case own => exact HV1.out.alloc _
             case base => have := HB9.out.size; simp; try omega
             intro v3 w10 hown hgrow
             obtain ⟨v3o, v3c, rfl⟩ := own_shapeE hown
             have HV3 := Lib.hid hown
             have HB10 : Hid (Below w6.heap.size w6 w10) := (HB9.out.alloc HB9.out.size _).grown hgrow (by have := HB9.out.size; simp; try omega) (fun q hq => (HV1.out.lt q hq).1)
             clear hown hgrow)
          | (refine step_append_own (w := w9) rfl (.tmp 115) (.tmp 118) 22 rfl w6.heap.size 50 i0 (.agg #[.string ⟨#[]⟩, .bool false, .int .i64 0, .slice none 0 0]) 4 56 Try.underlying22 hi0 hz0 hz1 HZ2.out rfl (by omega) (.slice v1o k v1c) k N1 (by kernel_rfl) ?own ⟨w6.heap.size + 1, 0, none⟩ 1 1 [.string s, .bool false, .int .i64 0, .slice none 0 0] (by kernel_rfl) rfl (four_cells HOne2.out) (by simp [Value.oneCell']) (by unfold maxLen; omega) (by omega) ?base ?_
             case own => exact HV1.out
             case base => have := HB9.out.size; simp; try omega
             intro v3 w10 hown hgrow
             obtain ⟨v3o, v3c, rfl⟩ := own_shapeE hown
             have HV3 := Lib.hid hown
             have HB10 : Hid (Below w6.heap.size w6 w10) := (HB9.out).grown hgrow (by have := HB9.out.size; simp; try omega) (fun q hq => (HV1.out.lt q hq).1)
             clear hown hgrow)
          | (refine step_append_own (w := w9) rfl (.tmp 115) (.tmp 118) 22 rfl w6.heap.size 50 i0 (.agg #[.string ⟨#[]⟩, .bool false, .int .i64 0, .slice none 0 0]) 4 56 Try.underlying22 hi0 hz0 hz1 HZ2.out rfl (by omega) (.slice v1o k v1c) k N1 (by kernel_rfl) ?own ⟨w6.heap.size, 0, none⟩ 1 1 [.string s, .bool false, .int .i64 0, .slice none 0 0] (by kernel_rfl) rfl (four_cells HOne3.out) (by simp [Value.oneCell']) (by unfold maxLen; omega) (by omega) ?base ?_
             case own => exact HV1.out
             case base => have := HB9.out.size; simp; try omega
             intro v3 w10 hown hgrow
             obtain ⟨v3o, v3c, rfl⟩ := own_shapeE hown
             have HV3 := Lib.hid hown
             have HB10 : Hid (Below w6.heap.size w6 w10) := (HB9.out).grown hgrow (by have := HB9.out.size; simp; try omega) (fun q hq => (HV1.out.lt q hq).1)
             clear hown hgrow)
          | (refine step_appF (w := w10) HA2.out rfl (.tmp 119) (.tmp 122) rfl (.slice v3o (k + 1) v3c) (k + 1) (N1 ++ [.string s, .bool false, .int .i64 0, .slice none 0 0]) (by kernel_rfl) (by kernel_rfl) ?hW3 (by omega) ?own3 ?_
             case hW3 => exact HB10.out
             case own3 => exact HV3.out
             intro v5 w11 hown hgrow hwh
             obtain ⟨v5o, v5c, rfl⟩ := own_shapeE hown
             have HV5 := Lib.hid hown
             have HB11 : Hid (Below w6.heap.size w6 w11) := HB10.out.grown hgrow HB10.out.size (fun q hq => (HV3.out.lt q hq).1)
             clear hown hgrow hwh)
          | (trace_state; fail))
        all_goals
          have HSl5 : Hid (SlF w11 (.slice v5o (k + 1 + (i - k)) v5c) (L.take k ++ ⟨s, false, 0, []⟩ :: L.drop k)) := by
            have hP' : (P.take k ++ ((⟨s, false, 0, []⟩ : Fl), (.slice none 0 0 : Value)) :: P.drop k).map (·.1) = L.take k ++ ⟨s, false, 0, []⟩ :: L.drop k := by
              rw [List.map_append, List.map_cons, List.map_take, List.map_drop, HP.out]
            have hlen : (L.take k ++ (⟨s, false, 0, []⟩ : Fl) :: L.drop k).length = k + 1 + (i - k) := by
              rw [List.length_append, List.length_cons, List.length_take, List.length_drop, HN.out]; omega
            have h5 := HV5.out
            rw [← HN1.out, ← HN2.out] at h5
            refine rowF_sl (T := 50) (B := w6.heap.size) hP' (by rw [hlen]; exact (by rw [flatF_append]; simpa [flatF] using h5)) (fun p hp => ?_)
            rcases List.mem_append.1 hp with hp | hp
            · exact (HE.out p (List.mem_of_mem_take hp)).below (HBr.out.trans (HB11.out.mono HBr.out.size))
            · rcases List.mem_cons.1 hp with rfl | hp
              · exact ⟨none, 0, rfl, Nat.le_refl _, .inl rfl⟩
              · exact (HE.out p (List.mem_of_mem_drop hp)).below (HBr.out.trans (HB11.out.mono HBr.out.size))
          have HBf : Hid (Below w.heap.size w w11) := HBr.out.trans (HB11.out.mono HBr.out.size)
          have CRf := Lib.hid (right_any _ _ 0 4096 w11 HSl5.out (nums_right HRn.out) (by have := HRn.out.1; omega) (by unfold I64; omega) (by unfold I64; omega))
          rw [(rtB_iff _ _ _).2 HRn.out] at CRf
          clear HV5 HB11 HSl5 HV3 HV1 HB9 HB10
          go_wp2_with fail
          refine CRf.out.mono ?_
          rintro e w12 ⟨rfl, hb12⟩
          have HB12 : Hid (Below w.heap.size w w12) := HBf.out.trans (hb12.mono HBf.out.size)
          clear hb12
          go_wp2_with fail
          go_ret
          exact ⟨rfl, HB12.out⟩
end Go.Proofs.Ytfmnbabkdpiboaa
