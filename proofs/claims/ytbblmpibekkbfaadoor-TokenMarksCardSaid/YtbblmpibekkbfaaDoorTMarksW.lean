/- TokenMarks: the walk. -/
import Derived.Test.YtbblmpibekkbfaaDoorTWalks
import Derived.Test.YtbblmpibekkbfaaDoorTMarksM
namespace Go.Proofs.YtbblmpibekkbfaaDoor
open Go.RowKit

set_option maxRecDepth 100000 in
set_option maxHeartbeats 4000000 in
theorem tokmarks_walk (v : Value) (L : List ByteArray) (a b : Int) (w : World) (hT : TabsT w) (hv : RdT w v L) (hl : L.length ≤ maxLen) (hLz : ∀ x ∈ L, x.size ≤ maxLen) (ha : -9223372036854775808 ≤ a ∧ a ≤ 9223372036854775807) (hb0 : -9223372036854775808 ≤ b ∧ b ≤ 9223372036854775807) : Calls Tryd.prog 6 #[v, .int .i64 a, .int .i64 b] w fun e w' => e = .returned (.bool true) ∧ Below w.heap.size w w' := by
  have HT := Lib.hid hT
  clear hT
  have CS := Lib.hid (shown11_any w HT.out)
  unfold maxLen at hl hLz
  have HLz := Lib.hid hLz
  clear hLz
  obtain ⟨ao, c, rfl, hc⟩ := hv
  have HC := Lib.hid hc
  clear hc
  have hlz : ((L.length : Nat) : Int) ≤ 9223372036854775807 := by omega
  have K1 : Hid (∀ W, Calls Tryd.prog 18 #[.int .i64 a] W fun e w' => e = .returned (.int .i64 (kindI a : Nat)) ∧ W = w') := fun W => kind_any a W
  have K2 : Hid (∀ W, Calls Tryd.prog 18 #[.int .i64 b] W fun e w' => e = .returned (.int .i64 (kindI b : Nat)) ∧ W = w') := fun W => kind_any b W
  have MA : Hid (∀ W, Calls Tryd.prog 19 #[.string ⟨#[]⟩, .int .i64 a] W fun e w' => e = .returned (.string (utxt (byts (markR a)))) ∧ Below W.heap.size W w') := fun W => by
    have := xappend_any ⟨#[]⟩ a W (by decide) ha
    rwa [mark_app] at this
  have MB : Hid (∀ W, Calls Tryd.prog 19 #[.string ⟨#[]⟩, .int .i64 b] W fun e w' => e = .returned (.string (utxt (byts (markR b)))) ∧ Below W.heap.size W w') := fun W => by
    have := xappend_any ⟨#[]⟩ b W (by decide) hb0
    rwa [mark_app] at this
  have HNa := Lib.hid (fun h1 h2 => mark_no (r := a) h1 h2)
  have HNb := Lib.hid (fun h1 h2 => mark_no (r := b) h1 h2)
  have HRa := Lib.hid (mark_rn a)
  have HRb := Lib.hid (mark_rn b)
  have hka : ∃ KA : Int, ((kindI a : Nat) : Int) = KA ∧ (KA = 1 ↔ kindI a = 1) ∧ (KA = 2 ↔ kindI a = 2) := ⟨_, rfl, by omega, by omega⟩
  have hkb : ∃ KB : Int, ((kindI b : Nat) : Int) = KB ∧ (KB = 1 ↔ kindI b = 1) ∧ (KB = 2 ↔ kindI b = 2) := ⟨_, rfl, by omega, by omega⟩
  obtain ⟨KA, eA, hA1, hA2⟩ := hka
  obtain ⟨KB, eB, hB1, hB2⟩ := hkb
  rw [eA] at K1
  rw [eB] at K2
  have HA1 := Lib.hid hA1; have HA2 := Lib.hid hA2; have HB1 := Lib.hid hB1; have HB2 := Lib.hid hB2
  clear eA eB hA1 hA2 hB1 hB2
  generalize markR a = xa at *
  generalize markR b = xb at *
  go_enter Tryd.func6, Tryd.ntmps6
  go_wp2_with fail
  refine CS.out.mono ?_
  rintro e w1 ⟨rfl, hb⟩
  have H1 := Lib.hid hb
  clear hb CS
  by_cases h40 : 40 < L.length
  · have z40 : (40 : Int) < (L.length : Int) := by omega
    go_wp2_with fail
    go_ret
    exact ⟨rfl, H1.out⟩
  have z40 : ¬ (40 : Int) < (L.length : Int) := by omega
  go_wp2_with fail
  refine (K1.out _).mono ?_
  rintro e w2 ⟨rfl, rfl⟩
  by_cases hA1 : KA = 1
  · have q : (KA == 1) = true := beq_iff_eq.2 hA1
    clear hA1
    go_wp2_with fail
    go_ret
    exact ⟨rfl, H1.out⟩
  have qA1 : (KA == 1) = false := beq_eq_false_iff_ne.2 hA1
  go_wp2_with fail
  refine (K1.out _).mono ?_
  rintro e w2 ⟨rfl, rfl⟩
  by_cases hA2 : KA = 2
  · have q : (KA == 2) = true := beq_iff_eq.2 hA2
    clear hA2
    go_wp2_with fail
    go_ret
    exact ⟨rfl, H1.out⟩
  have qA2 : (KA == 2) = false := beq_eq_false_iff_ne.2 hA2
  go_wp2_with fail
  refine (K2.out _).mono ?_
  rintro e w2 ⟨rfl, rfl⟩
  by_cases hB1 : KB = 1
  · have q : (KB == 1) = true := beq_iff_eq.2 hB1
    clear hB1
    go_wp2_with fail
    go_ret
    exact ⟨rfl, H1.out⟩
  have qB1 : (KB == 1) = false := beq_eq_false_iff_ne.2 hB1
  go_wp2_with fail
  refine (K2.out _).mono ?_
  rintro e w2 ⟨rfl, rfl⟩
  by_cases hB2 : KB = 2
  · have q : (KB == 2) = true := beq_iff_eq.2 hB2
    clear hB2
    go_wp2_with fail
    go_ret
    exact ⟨rfl, H1.out⟩
  have qB2 : (KB == 2) = false := beq_eq_false_iff_ne.2 hB2
  have HWa := Lib.hid (HNa.out (fun h => hA1 (HA1.out.2 h)) (fun h => hA2 (HA2.out.2 h)))
  have HWb := Lib.hid (HNb.out (fun h => hB1 (HB1.out.2 h)) (fun h => hB2 (HB2.out.2 h)))
  go_wp2_with fail
  refine (MB.out _).mono ?_
  rintro e w2 ⟨rfl, hb⟩
  have H2 := Lib.hid (below_nextT H1.out hb)
  clear hb H1 hA1 hA2 hB1 hB2 HNa HNb HA1 HA2 HB1 HB2 K1 K2
  go_wp2_with fail
  clear z40 qA1 qA2 qB1 qB2
  have HBs : Hid ((utxt (byts xa)).size ≤ 4) := by show _ ≤ _; rw [utxt_size]; exact byts_four xa
  have HBt : Hid ((utxt (byts xb)).size ≤ 4) := by show _ ≤ _; rw [utxt_size]; exact byts_four xb
  have HXa : Hid ((utxt (byts xa)).data.toList = byts xa) := rfl
  have HXb : Hid ((utxt (byts xb)).data.toList = byts xb) := rfl
  generalize utxt (byts xa) = Xa at *
  generalize utxt (byts xb) = Xb at *
  go_loopw [8, 9, 10] (fun sv tv iv wr => ∃ (i : Nat) (S T : ByteArray) (G : List (List It)), sv = .string S ∧ tv = .string T ∧ iv = .int .i64 (i : Int) ∧ i ≤ L.length ∧ S.size ≤ 61 * i ∧ T.size ≤ 4 + 68 * i ∧ Hid (Ends S.data.toList G) ∧ Hid (Ends T.data.toList G) ∧ Hid (Below w.heap.size w wr)) (fun _ _ iv _ => L.length - (intOf iv).toNat)
  case atStart => exact ⟨0, ⟨#[]⟩, Xb, [], rfl, rfl, rfl, Nat.zero_le _, Nat.le_refl _, HBt.out, ends_nil, by
    have := ends_more ends_nil HRb.out HWb.out
    rw [List.nil_append] at this
    show Ends _ _
    rw [HXb.out]; exact this, H2⟩
  case round =>
    obtain ⟨i, S, T, G, rfl, rfl, rfl, hi, hSz, hTz, HS, HTE, HB⟩ := hrel
    clear H2
    have h5 : 0 ≤ (i : Int) := by omega
    have h6 : (i : Int).toNat = i := rfl
    by_cases hlt : i < L.length
    · have hil : ((i : Nat) : Int) < L.length := by omega
      obtain ⟨g, off, rfl, hg, x0⟩ := HC.out i hlt
      have hgr : g < wr.heap.size := Nat.lt_of_lt_of_le hg HB.out.size
      have x0 := (HB.out.cell (p := ⟨g, _, none⟩) hg).trans x0
      have hXm := HLz.out L[i] (List.getElem_mem hlt)
      clear hg
      generalize L[i] = X at *
      by_cases h60 : 60 < X.size
      · have z60 : (60 : Int) < (X.size : Int) := by omega
        go_wp2_with fail
        go_ret
        exact ⟨rfl, HB.out⟩
      have z60 : ¬ (60 : Int) < (X.size : Int) := by omega
      have HS2 : Hid (Ends (S ++ X ++ (⟨#[32]⟩ : ByteArray)).data.toList (G ++ grps (cut X.data.toList))) := by
        show Ends _ _
        rw [appendT_list, appendT_list]
        exact ends_word HS.out X.data.toList (x := 32) (by decide) blank_no
      have HT2 : Hid (Ends (T ++ X ++ Xa ++ Xb).data.toList (G ++ grps (cut X.data.toList))) := by
        show Ends _ _
        rw [appendT_list, appendT_list, appendT_list, HXa.out, HXb.out]
        exact ends_more (ends_word HTE.out X.data.toList HRa.out HWa.out) HRb.out HWb.out
      have hS2z : (S ++ X ++ (⟨#[32]⟩ : ByteArray)).size ≤ 61 * (i + 1) := by
        rw [ByteArray.size_append, ByteArray.size_append]
        exact Nat.le_trans (Nat.add_le_add_right (Nat.add_le_add hSz (show X.size ≤ 60 by omega)) 1) (by omega)
      have hza := HBs.out
      have hzb := HBt.out
      have hT2z : (T ++ X ++ Xa ++ Xb).size ≤ 4 + 68 * (i + 1) := by
        rw [ByteArray.size_append, ByteArray.size_append, ByteArray.size_append]; omega
      have HS2z := Lib.hid hS2z; have HT2z := Lib.hid hT2z
      have HHo : Hid (∀ W, Below wr.heap.size wr W → W.cell? ⟨g, off + i, none⟩ = some (.string X)) := fun W hW => (hW.cell (p := ⟨g, _, none⟩) hgr).trans x0
      clear hS2z hT2z HS HTE
      have hi40 : i ≤ 40 := by omega
      have c1 : ¬ 9223372036854775807 < T.size + X.size := by omega
      have c2 : ¬ 9223372036854775807 < T.size + X.size + Xa.size := by omega
      have c3 : ¬ 9223372036854775807 < T.size + X.size + Xa.size + Xb.size := by omega
      have c4 : ¬ 9223372036854775807 < S.size + X.size := by omega
      have c5 : ¬ 9223372036854775807 < S.size + X.size + 1 := by omega
      clear hza hzb hSz hTz hi40 hXm h60
      go_upto_region 12 with fail
      clear HLz HC z60 HBs HBt HXa HXb
      go_region_held3 (fun W => W.cell? ⟨g, off + i, none⟩ = some (.string X))
        (first | assumption | exact x0)
        (first
          | (go_at_call 19; with_reducible refine (MA.out _).mono ?_; rintro e wa ⟨rfl, hb1⟩; have hba := below_nextT ((Below.refl wr.heap.size wr).drew) hb1; have xa1 := HHo.out _ hba)
          | (go_at_call 19; with_reducible refine (MB.out _).mono ?_; rintro e wb ⟨rfl, hb2⟩; have hbb := below_nextT hba hb2; have xb1 := HHo.out _ hbb))
      have HBn : Hid (Below w.heap.size w wb) := HB.out.trans (hbb.mono HB.out.size)
      have hz1 := HS2z.out
      have hz2 := HT2z.out
      clear hbb hb1 hb2 hba xa1 xb1 x0 c1 c2 c3 c4 c5
      go_wp2
      go_roundw
      case rel => exact ⟨i + 1, _, _, _, rfl, rfl, by go_num, by omega, hz1, hz2, HS2.out, HT2.out, HBn⟩
      case measure => simp [intOf]; omega
    · obtain rfl : i = L.length := by omega
      have hl40 : L.length ≤ 40 := by omega
      have hS0 : S.size ≤ 10000 := by omega
      have hT0 : T.size ≤ 10000 := by omega
      have hST := ends_same HS.out HTE.out
      have hSR : trmL S = trmL T := by unfold trmL; rw [hST]
      have CA := Lib.hid (fun W (hW : Below w.heap.size w W) => ptokens_any S W (HT.out.below hW) hS0)
      have CB := Lib.hid (fun W (hW : Below w.heap.size w W) => ptokens_any T W (HT.out.below hW) hT0)
      have DA := Lib.hid (fun W (hW : Below w.heap.size w W) => pterms_any S W (HT.out.below hW) hS0)
      have DB := Lib.hid (fun W (hW : Below w.heap.size w W) => pterms_any T W (HT.out.below hW) hT0)
      have D1 := Lib.hid (fun va vb W h1 h2 => sameK_any (tokL T) va vb W h1 h2 (by have := tokL_len T; omega))
      have D2 := Lib.hid (fun va vb W h1 h2 => sameT_any (trmL T) va vb W h1 h2 (by have := trmL_len T; omega))
      rw [hST] at CA
      rw [hSR] at DA
      clear hST hSR hS0 hT0 hSz hTz HS HTE hl40 HC HLz MA MB
      generalize tokL T = LK at *
      generalize trmL T = LT at *
      go_wp2_with fail
      refine (CA.out _ HB.out).mono ?_
      rintro e w3 ⟨v3, rfl, hr, _, hb⟩
      have H3 := Lib.hid (below_nextT HB.out hb)
      have R3 := Lib.hid hr
      clear hb hr
      go_wp2_with fail
      refine (CB.out _ H3.out).mono ?_
      rintro e w4 ⟨v4, rfl, hr, _, hb⟩
      have H4 := Lib.hid (below_nextT H3.out hb)
      have R4 := Lib.hid hr
      have R3' := Lib.hid (R3.out.below hb)
      clear hb hr
      go_wp2_with fail
      refine (D1.out _ _ _ R3'.out R4.out).mono ?_
      rintro e w5 ⟨rfl, hb⟩
      have H5 := Lib.hid (below_nextT H4.out hb)
      clear hb
      go_wp2_with fail
      refine (DA.out _ H5.out).mono ?_
      rintro e w6 ⟨v6, rfl, hr, hb⟩
      have H6 := Lib.hid (below_nextT H5.out hb)
      have R6 := Lib.hid hr
      clear hb hr
      go_wp2_with fail
      refine (DB.out _ H6.out).mono ?_
      rintro e w7 ⟨v7, rfl, hr, hb⟩
      have H7 := Lib.hid (below_nextT H6.out hb)
      have R7 := Lib.hid hr
      have R6' := Lib.hid (R6.out.below hb)
      clear hb hr
      go_wp2_with fail
      refine (D2.out _ _ _ R6'.out R7.out).mono ?_
      rintro e w8 ⟨rfl, hb⟩
      have H8 := Lib.hid (below_nextT H7.out hb)
      clear hb
      go_wp2
      go_ret
      exact ⟨rfl, H8.out⟩
end Go.Proofs.YtbblmpibekkbfaaDoor
