/- What the program's Terms answers. -/
import Derived.Test.YtbblmpibekkbfaaDoorTToksP
import Derived.Test.YtbblmpibekkbfaaDoorTSortM
import Derived.Test.YtbblmpibekkbfaaDoorShelf2
import Derived.Test.YtbblmpibekkbfaaDoorShelf3
import Derived.Lib.OwnBridge
import Derived.Sort.OwnSorted
namespace Go.Proofs.YtbblmpibekkbfaaDoor
open Go.RowKit Go.Sort

def trmL (s : ByteArray) : List ByteArray := termsL (tokL s)
theorem tokL_small (s : ByteArray) : (tokL s).length ≤ s.size := by
  have h1 := words_small s.data.toList
  have h2 := tkL_len (wordsL s.data.toList) (wordsL s.data.toList).length
  unfold tkL at h2
  rw [List.take_of_length_le (Nat.le_refl _)] at h2
  rw [data_len] at h1
  unfold tokL
  omega
theorem one_cellS {w : World} {t : TypeId} {s : ByteArray} {g : Nat} (hg : w.heap.size = g) : ∀ (j : Nat) (u : Value), [Value.string s][j]? = some u → (w.alloc (.cells #[.string s] t)).cell? ((⟨g, 0, none⟩ : Addr).add j) = some u := by
  subst hg
  intro j u hu
  rw [add_atT, Nat.zero_add, cell_atT (heap_alloc_newT ..)]
  rw [← hu]; simp
theorem one_oneS {s : ByteArray} : ∀ u ∈ [Value.string s], u.oneCell' = true := by
  intro u hu
  simp only [List.mem_cons, List.not_mem_nil, or_false] at hu
  subst hu; rfl
set_option maxRecDepth 100000 in
set_option maxHeartbeats 4000000 in
theorem pterms0_any (s : ByteArray) (w : World) (hT : Tabs w) (hs : s.size ≤ 100000) : Calls Tryd.prog 13 #[.string s] w fun e w' => ∃ v, e = .returned v ∧ RdT w' v (trmL s) ∧ Below w.heap.size w w' := by
  obtain ⟨i0, hi, hz0, hz1, hz2⟩ := info_parts infoT
  have HZ2 := Lib.hid hz2; clear hz2
  have CT := Lib.hid (ptokens0_any s w hT hs)
  have hn := tokL_small s
  obtain ⟨L, hL⟩ : ∃ L, tokL s = L := ⟨_, rfl⟩
  have HS : Hid (Lib.compact (((L.map (·.1)).map (·.data.toList)).mergeSort fun x y => decide (x ≤ y)) = (trmL s).map (·.data.toList)) := by
    show _ = _
    rw [terms_sorted]
    unfold trmL termsL
    rw [hL]
  rw [hL] at CT hn
  clear hT hL
  generalize trmL s = F at *
  go_enter Tryd.func13, Tryd.ntmps13
  go_wp2_with fail
  refine CT.out.mono ?_
  rintro e w1 ⟨v, rfl, hr, _, hb1⟩
  obtain ⟨ao, c, rfl, hcell⟩ := hr
  have HL := Lib.hid hcell
  have HB1 := Lib.hid hb1
  have hl0 : ((L.length : Nat) : Int) ≤ 100000 := by omega
  clear hcell hb1 CT
  go_wp2_with fail
  go_loopw [3, 9] (fun ov iv wr => ∃ i : Nat, iv = .int .i64 (i : Int) ∧ i ≤ L.length ∧ Hid (TRow w1.heap.size wr ov ((L.map (·.1)).take i)) ∧ Hid (Below w1.heap.size w1 wr)) (fun _ iv _ => L.length - (intOf iv).toNat)
  case atStart => exact ⟨0, rfl, by omega, World.ownsRow_nil _ _ _ _, Below.refl _ _⟩
  case round =>
    obtain ⟨i, rfl, hi1, HO, HB⟩ := hrel
    by_cases hlt : i < L.length
    · obtain ⟨g, off, hao, hg1, hc1, hc2⟩ := HL.out i hlt
      subst hao
      have x1 := (HB.out.cell (p := ⟨g, _, none⟩) hg1).trans hc1
      have x2 := (HB.out.cell (p := ⟨g, _, none⟩) hg1).trans hc2
      have hil : ((i : Nat) : Int) < L.length := by omega
      have HN : Hid ((L.map (·.1)).take (i + 1) = (L.map (·.1)).take i ++ [L[i].1]) := by
        show _ = _
        rw [List.take_succ_eq_append_getElem (by rw [List.length_map]; exact hlt), List.getElem_map]
      have HLen : Hid (((L.map (·.1)).take i).length = i) := by show _ = _; rw [List.length_take, List.length_map]; omega
      clear hc1 hc2 hg1
      generalize L[i] = q at *
      obtain ⟨U, p⟩ := q
      dsimp only at x1 x2 HN
      generalize (L.map (·.1)).take i = o at *
      have h3 : 0 ≤ (i : Int) := by omega
      have h4 : (i : Int).toNat = i := rfl
      go_wp2_with (at_builtin; go_loud (refine wpList_append_own _ rfl _ _ 27 rfl w1.heap.size 9 i0 _ 1 16 Tryd.underlying27 hi hz0 hz1 HZ2.out rfl (by decide) _ _ _ rfl ((HO.out.alloc _).alloc _) _ 1 1 [.string U] rfl rfl (one_cellS (by simp)) one_oneS ?c3 ?c4 ?c5 ?_))
      case c3 => have := HLen.out; unfold maxLen; omega
      case c4 => have := HLen.out; omega
      case c5 => have := HB.out.size; simp; omega
      intro v1 w4 hown hgrow _
      have HO4 : Hid (TRow w1.heap.size w4 v1 (o ++ [U])) := by
        show TRow _ _ _ _
        unfold TRow
        rw [List.length_append, List.map_append]
        exact hown
      have HB4 : Hid (Below w1.heap.size w1 w4) := ((HB.out.alloc HB.out.size _).alloc (by have := HB.out.size; simp; omega) _).grown hgrow (by have := HB.out.size; simp; omega) (fun q hq => HO.out.low hq)
      clear hown hgrow
      go_wp2
      go_roundw
      case rel => exact ⟨i + 1, by go_num, by omega, by rw [HN.out]; exact HO4.out, HB4.out⟩
      case measure => simp [intOf]; omega
    · have hil : ¬ ((i : Nat) : Int) < L.length := by omega
      have HO2 : Hid (TRow w1.heap.size wr u3 (L.map (·.1))) := by
        have := HO.out
        rw [List.take_of_length_le (by rw [List.length_map]; omega)] at this
        exact this
      have hLl : (L.map (·.1)).length = L.length := List.length_map _
      obtain ⟨l, hl⟩ : ∃ l, L.map (·.1) = l := ⟨_, rfl⟩
      have HSl := HS
      rw [hl] at HO2 HSl hLl
      clear HO HS hl
      rcases HO2.out.2 with ⟨rfl, h0⟩ | ⟨g, cap, cur, rfl, hbg, hgb, h1, h2, h3, h4⟩
      · have hl0 : l = [] := List.length_eq_zero_iff.1 h0
        have HF : Hid (F = []) := by
          have := HSl.out
          rw [hl0] at this
          have h2 : F.map (·.data.toList) = [] := by rw [← this]; simp [Lib.compact, Lib.compactUpTo]
          exact List.map_eq_nil_iff.1 h2
        go_wp2_with fail
        refine (Tryd.slices_Sort_string_none none 0 wr).mono ?_
        rintro e w2 ⟨rfl, rfl⟩
        go_wp2_with fail
        refine (Tryd.slices_Compact_string_empty none 0 _).mono ?_
        rintro e w3 ⟨rfl, rfl⟩
        go_wp2
        go_ret
        refine ⟨_, rfl, ?_, HB1.out.trans (HB.out.mono HB1.out.size)⟩
        rw [HF.out]
        exact ⟨none, 0, rfl, fun j hj => absurd hj (Nat.not_lt_zero _)⟩
      · obtain ⟨zs, hzs⟩ : ∃ zs, l.map (·.data.toList) = zs := ⟨_, rfl⟩
        have hzl : zs.length = l.length := by rw [← hzs, List.length_map]
        have hze : zs.map encStr = l.map Value.string := by rw [← hzs]; exact Lib.map_encStr l
        rw [Nat.mul_one] at h4
        rw [← hze, ← hzl] at h4
        rw [← hzl] at h1
        have hg : g < wr.heap.size := (Array.getElem?_eq_some_iff.1 hgb).1
        have CS := Lib.hid (Tryd.slices_Sort_string g 0 cap zs wr (holds_of_block hgb h4) hg (by omega))
        have HSz := HSl.out
        rw [hzs] at HSz
        obtain ⟨ts, hts⟩ : ∃ ts, (zs.mergeSort fun x y => decide (x ≤ y)) = ts := ⟨_, rfl⟩
        have htl : ts.length = zs.length := by rw [← hts]; exact List.length_mergeSort _
        rw [hts] at CS HSz
        have HOwn := Lib.hid (fun n os => ownsRow_sorted (n := n) (os := os) (ss := zs) (ts := ts) htl hbg hgb h1 h2 h3)
        have HGr : Hid (∀ n os, wr.grownBy (grow (putRow encStr (Sort.ahead wr n) g 0 ts.toArray) os) (some g)) := fun n os => grownBy_sorted _
        have hkl : (Lib.compact ts).length ≤ ts.length := by
          unfold Lib.compact Lib.compactUpTo
          rw [List.length_map]
          exact Nat.le_trans (List.length_filter_le _ _) (by rw [List.length_range]; exact Nat.le_refl _)
        have hcapl : ts.length ≤ cap := by omega
        have htb : ts.length ≤ 9223372036854775807 := by omega
        have HF : Hid (F.map Value.string = (Lib.compact ts).map encStr ∧ F.length = (Lib.compact ts).length) := by
          refine ⟨?_, by rw [HSz, List.length_map]⟩
          rw [HSz, Lib.map_encStr]
        have HTl := Lib.hid htl
        have HKl := Lib.hid hkl
        have HBg := Lib.hid hbg
        rw [hzl, hLl] at CS
        clear hts htl hkl HSz HSl h1 h2 h3 h4 hzs hgb HO2 hbg
        go_wp2_with fail
        refine CS.out.mono ?_
        rintro e w2 ⟨rfl, n, os, hw2⟩
        have own2 := HOwn.out n os
        have gr2 := HGr.out n os
        rw [← hw2] at own2 gr2
        have HB2 : Hid (Below w1.heap.size w1 w2) := HB.out.grown gr2 HB.out.size (fun q hq => by cases hq; exact HBg.out)
        obtain ⟨g', cap', hv', _, hg2, _, _, _, hH⟩ := Lib.holds_of_ownsRow own2 (by simp)
        injection hv' with hv1 _ hv3
        injection hv1 with hv1
        injection hv1 with hv1
        subst hv1
        clear hv3
        have CC := Lib.hid (Tryd.slices_Compact_string g 0 cap ts w2 hH htb hcapl)
        rw [HTl.out, hzl, hLl] at CC
        have HO3 := Lib.hid own2
        clear own2 gr2 hw2 hH HOwn HGr CS
        go_wp2_with fail
        refine CC.out.mono ?_
        rintro e w3 ⟨rfl, q, hw3⟩
        have own3 := Lib.ownsRow_putRow (q := q) (k := (Lib.compact ts).length) (ys := Lib.compact ts ++ List.replicate (L.length - (Lib.compact ts).length) []) HO3.out (by have := HTl.out; have := HKl.out; rw [List.length_append, List.length_replicate]; omega) (by have := HTl.out; have := HKl.out; omega)
        rw [List.take_left, ← hw3] at own3
        have HO4 := Lib.hid own3
        have HB3 : Hid (Below w1.heap.size w1 w3) := by rw [hw3]; exact Lib.below_putRow HB2.out HBg.out
        clear own3 hw3 CC
        go_wp2
        go_ret
        refine ⟨_, rfl, ?_, HB1.out.trans (HB3.out.mono HB1.out.size)⟩
        have h5 : TRow w1.heap.size w3 (.slice (some ⟨g, 0, none⟩) (Lib.compact ts).length cap) F := by
          unfold TRow
          rw [HF.out.1, HF.out.2]
          exact HO4.out
        exact h5.rd
end Go.Proofs.YtbblmpibekkbfaaDoor
