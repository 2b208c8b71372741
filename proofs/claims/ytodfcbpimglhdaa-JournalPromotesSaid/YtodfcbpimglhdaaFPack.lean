/- What Pack answers: the frame, or why there is none. -/
import Derived.Test.YtodfcbpimglhdaaFCheck
import Derived.Test.YtodfcbpimglhdaaFSum
import Derived.Test.YtodfcbpimglhdaaShelf
import Derived.Deep.RegionWith
namespace Go.Proofs.Ytodfcbpimglhdaa.Fr
open Go.RowKit

theorem fixed_eq (x : Int) (v : Nat) (w : World) (h : x = (v : Int)) (hv : v < 4294967296) :
    Calls Try.prog 83 #[.int .u32 x] w fun e w' => e = .returned (.string (bs (fixL v))) ∧ Below w.heap.size w w' := by
  rw [h]; exact fixed_any v w hv
theorem rfixed_eq (x : Int) (v : Nat) (w : World) (h : x = (v : Int)) (hv : v < 4294967296) :
    Calls Try.prog 84 #[.int .u32 x] w fun e w' => e = .returned (.string (bs (fixL v))) ∧ Below w.heap.size w w' := by
  rw [h]; exact rfixed_any v w hv
theorem fixed_to (x : Int) (v : Nat) (t : ByteArray) (w : World) (h : x = (v : Int)) (hv : v < 4294967296) (ht : Hid (bs (fixL v) = t)) :
    Calls Try.prog 83 #[.int .u32 x] w fun e w' => e = .returned (.string t) ∧ Below w.heap.size w w' := by
  rw [← ht.out]; exact fixed_eq x v w h hv
theorem rfixed_to (x : Int) (v : Nat) (t : ByteArray) (w : World) (h : x = (v : Int)) (hv : v < 4294967296) (ht : Hid (bs (fixL v) = t)) :
    Calls Try.prog 84 #[.int .u32 x] w fun e w' => e = .returned (.string t) ∧ Below w.heap.size w w' := by
  rw [← ht.out]; exact rfixed_eq x v w h hv
theorem fix_name (v : Nat) : ∃ t, t.size ≤ 4 ∧ Hid (bs (fixL v) = t) := ⟨_, Nat.le_refl _, rfl⟩
theorem repeat_zero (c : Nat) : Lib.repeatL [0] c = List.replicate c 0 := by
  induction c with
  | zero => rfl
  | succ c ih => rw [Lib.repeatL, ih, List.replicate_succ]; rfl
theorem noughts_any (x : Int) (c : Nat) (w : World) (h : x = (c : Int)) (h2 : 2 ≤ c) (hc : c ≤ 1000) :
    Calls Try.prog 41 #[.string ⟨#[0]⟩, .int .i64 x] w fun e w' => e = .returned (.string (bs (List.replicate c 0))) ∧ Below w.heap.size w w' := by
  subst h
  refine (Try.strings_Repeat_main ⟨#[0]⟩ c w h2 (by omega) ?_ (by decide)).mono fun e w' ⟨he, hb⟩ => ⟨?_, hb⟩
  · show 1 * c ≤ _; omega
  · rw [he]; show Ending.returned (.string (bs (Lib.repeatL [0] c))) = _; rw [repeat_zero]

theorem map_snoc (X : ByteArray) (L : List (Int × ByteArray)) (k : Nat) (h : k < L.length) : X :: (L.take (k + 1)).map (·.2) = (X :: (L.take k).map (·.2)) ++ [L[k].2] := by
  rw [List.take_succ_eq_append_getElem h, List.map_append]; rfl
theorem one_cell {w : World} {t : TypeId} {s : ByteArray} {g : Nat} (hg : w.heap.size = g) : ∀ (j : Nat) (u : Value), [Value.string s][j]? = some u → (w.alloc (.cells #[.string s] t)).cell? ((⟨g, 0, none⟩ : Addr).add j) = some u := by
  subst hg
  intro j u hu
  cases j with
  | zero => rw [add_at, cell_at (heap_alloc_new ..)]; exact hu
  | succ j => simp at hu
theorem one_one {s : ByteArray} : ∀ u ∈ [Value.string s], u.oneCell' = true := by intro u hu; simp at hu; subst hu; rfl
theorem own_push {B : Nat} {w1 : World} {v1 : Value} {M : List ByteArray} {s : ByteArray} (hown : w1.ownsRow B 9 1 v1 (M.length + 1) (M.map Value.string ++ [.string s])) : OwnS B w1 v1 (M ++ [s]) := by
  unfold OwnS
  rw [List.length_append, List.map_append]
  exact hown
theorem below_predrew {B : Nat} {w w1 : World} (h : Below B w.drew w1) : Below B w w1 := (Below.refl B w).drew.trans h
theorem pre_alloc {w w2 : World} {o : Obj} (h : Below (w.alloc o).heap.size (w.alloc o) w2) : Below w.heap.size w w2 :=
  ((Below.refl _ _).alloc (Nat.le_refl _) o).trans (h.mono (by simp))

set_option maxRecDepth 100000 in
set_option maxHeartbeats 1000000 in
theorem pack_no (seq : Nat) (L : List (Int × ByteArray)) (v : Value) (w : World) (hl : L.length ≤ 1000) (hs : ∀ x ∈ L, x.2.size ≤ maxLen) (h : SlW w v L) (hc : chk L ≠ 0) :
    Calls Try.prog 61 #[.int .u64 (seq : Int), v] w fun e w' => e = .returned (.tuple #[.slice none 0 0, .int .i64 ((chk L : Nat) : Int)]) ∧ Below w.heap.size w w' := by
  have C := Lib.hid (check_any L v w hl hs h)
  obtain ⟨ao, c, rfl, _⟩ := h
  obtain ⟨x, hx⟩ : ∃ x, chk L = x := ⟨_, rfl⟩
  rw [hx] at C hc ⊢
  have hne : ((x : Int) != 0) = true := by simp; omega
  clear hx hc hs
  go_enter Try.func61, Try.ntmps61
  go_wp2_with fail
  refine C.out.mono ?_
  rintro e w1 ⟨rfl, hb1⟩
  have HB := Lib.hid hb1; clear hb1 C
  go_wp2
  go_ret2
  exact ⟨rfl, HB.out⟩

set_option maxRecDepth 100000 in
set_option maxHeartbeats 2000000 in
theorem pack_yes (seq : Nat) (L : List (Int × ByteArray)) (v : Value) (w : World) (hseq : seq < 18446744073709551616) (h : SlW w v L) (hc : chk L = 0) :
    Calls Try.prog 61 #[.int .u64 (seq : Int), v] w fun e w' => ∃ u, e = .returned (.tuple #[u, .int .i64 0]) ∧ OwnS w.heap.size w' u (packL seq L) ∧ Below w.heap.size w w' := by
  obtain ⟨i0, hi, hz0, hz1, hz2⟩ := info_parts Try.infoS
  have HZ2 := Lib.hid hz2; clear hz2
  obtain ⟨h1, h2, hw⟩ := (chk_ok L).1 hc
  have C := Lib.hid (check_any L v w (by omega) (fun x hx => by rw [(hw x hx).2.2]; unfold maxLen; omega) h)
  rw [hc] at C
  obtain ⟨b, off, c, rfl, hcap, hb, hcs⟩ := h.here (by omega)
  have HC := Lib.hid hcs; clear hcs h hc
  have HW := Lib.hid hw; clear hw
  obtain ⟨n, hn⟩ : ∃ n, L.length = n := ⟨_, rfl⟩
  rw [hn] at h1 h2 C hcap ⊢
  have HN := Lib.hid hn; clear hn
  go_enter Try.func61, Try.ntmps61
  go_wp2_with fail
  refine C.out.mono ?_
  rintro e w1 ⟨rfl, hb1⟩
  have HB := Lib.hid hb1; clear hb1 C
  obtain ⟨t1, z1, H1⟩ := fix_name (seq % 4294967296)
  obtain ⟨t2, z2, H2⟩ := fix_name (seq / 4294967296)
  obtain ⟨t3, z3, H3⟩ := fix_name n
  go_wp2_with fail
  refine (fixed_to _ _ _ _ (by omega) (by omega) H1).mono ?_
  rintro e w2 ⟨rfl, hb2⟩
  have HB2 := Lib.hid hb2; clear hb2
  go_wp2_with fail
  refine (fixed_to _ _ _ _ (by omega) (by omega) H2).mono ?_
  rintro e w3 ⟨rfl, hb3⟩
  have HB3 := Lib.hid hb3; clear hb3
  go_wp2_with fail
  refine (fixed_to _ _ _ _ (by omega) (by omega) H3).mono ?_
  rintro e w4 ⟨rfl, hb4⟩
  have HB4 : Hid (Below w.heap.size w w4) := by
    have s1 := HB.out.size; have s2 := HB2.out.size; have s3 := HB3.out.size
    exact HB.out.trans ((HB2.out.mono s1).trans ((HB3.out.mono (by omega)).trans (hb4.mono (by omega))))
  clear hb4 HB HB2 HB3
  have HS : Hid (⟨#[67, 68, 88, 84]⟩ ++ t1 ++ t2 ++ t3 = bs (begL seq n [])) := by
    show ((bs cdxt ++ t1) ++ t2) ++ t3 = _
    rw [← H1.out, ← H2.out, ← H3.out, bs_append, bs_append, bs_append]
    unfold begL numsL
    simp only [List.append_assoc, List.flatMap_nil, List.append_nil]
  go_wp2_with fail
  go_loopw [7, 34] (fun t i wr => ∃ k T, k ≤ n ∧ i = .int .i64 ((k : Nat) : Int) ∧ t = .string T ∧ T.size ≤ 16 + 4 * k ∧ 16 + 4 * k ≤ T.size ∧ Hid (T = bs (begL seq n (L.take k))) ∧ Hid (Below w.heap.size w wr)) (fun _ i _ => n - (intOf i).toNat)
  case atStart =>
    have e : (⟨#[67, 68, 88, 84]⟩ ++ t1 ++ t2 ++ t3 : ByteArray).size = 16 := by rw [HS.out, bs_len, begL_len]; rfl
    exact ⟨0, _, Nat.zero_le _, rfl, rfl, by omega, by omega, HS, HB4⟩
  case round =>
    clear HS HB4
    obtain ⟨k, T, hk, rfl, rfl, hT1, hT2, HT, HB⟩ := hrel
    have hbr := HB.out.size
    by_cases hlt : k < n
    · have hkL : k < L.length := by rw [HN.out]; exact hlt
      obtain ⟨c0, c1⟩ := (HC.out.below HB.out hb) k hkL
      obtain ⟨x0, x1, _⟩ := HW.out L[k] (List.getElem_mem hkL)
      obtain ⟨t, z, HF⟩ := fix_name L[k].1.toNat
      have HT2 : Hid (T ++ t = bs (begL seq n (L.take (k + 1)))) := by
        show T ++ t = _
        rw [HT.out, ← HF.out, bs_append, begL_snoc seq n L k hkL]
      have z4 : 4 ≤ t.size := by rw [← HF.out]; exact Nat.le_refl _
      generalize L[k] = p at *
      obtain ⟨pb, pd⟩ := p
      simp only at c0 c1 x0 x1 HF
      go_wp2_with fail
      refine (fixed_to _ _ _ _ (by omega) (by omega) HF).mono ?_
      rintro e w5 ⟨rfl, hb5⟩
      have HB5 : Hid (Below w.heap.size w w5) := HB.out.trans ((pre_alloc hb5).mono hbr)
      clear hb5
      go_wp2
      go_roundw
      case rel => exact ⟨k + 1, _, by omega, by go_num, rfl, by simp; omega, by simp; omega, HT2, HB5⟩
      case measure => simp [intOf]; omega
    · have hkn : k = n := by omega
      subst hkn
      have HX : Hid (T ++ bs (List.replicate (232 - 4 * k) 0) = bs (headL seq L)) := by
        show _ = _
        rw [HT.out, bs_append, List.take_of_length_le (by rw [HN.out]; exact Nat.le_refl _)]
        unfold headL
        rw [HN.out, show 248 - (16 + 4 * k) = 232 - 4 * k by omega]
      have hzs : (bs (List.replicate (232 - 4 * k) 0)).size ≤ 232 := by rw [bs_len, List.length_replicate]; omega
      obtain ⟨Z, hZ⟩ : ∃ Z, bs (List.replicate (232 - 4 * k) 0) = Z := ⟨_, rfl⟩
      have CN := Lib.hid (noughts_any (248 - (T.size : Int)) (232 - 4 * k) wr (by omega) (by omega) (by omega))
      rw [hZ] at HX hzs CN
      clear hZ HT
      go_wp2_with fail
      refine CN.out.mono ?_
      rintro e w5 ⟨rfl, hb5⟩
      have HB5 : Hid (Below w.heap.size w w5) := HB.out.trans (hb5.mono hbr)
      clear hb5 CN HB hbr
      have hbr := HB5.out.size
      obtain ⟨X, hX⟩ : ∃ X, T ++ Z = X := ⟨_, rfl⟩
      rw [hX] at HX
      go_wp2_with fail
      have HO : Hid (OwnS w.heap.size (w5.alloc (.cells #[.string X] 9)) (.slice (some ⟨w5.heap.size, 0, none⟩) 1 1) (X :: (L.take 0).map (·.2))) :=
        World.ownsRow_lit w5 #[.string X] 1 hbr (by unfold maxLen; omega) rfl
      have HBa : Hid (Below w.heap.size w (w5.alloc (.cells #[.string X] 9))) := HB5.out.alloc hbr _
      clear HB5 hbr
      generalize w5.alloc (.cells #[.string X] 9) = w6 at *
      generalize (.slice (some ⟨w5.heap.size, 0, none⟩) 1 1 : Value) = v6 at *
      go_loopw [10, 54] (fun fv i wr => ∃ j : Nat, j ≤ k ∧ i = .int .i64 j ∧ Hid (OwnS w.heap.size wr fv (X :: (L.take j).map (·.2))) ∧ Hid (Below w.heap.size w wr)) (fun _ i _ => k - (intOf i).toNat)
      case atStart => exact ⟨0, Nat.zero_le _, rfl, HO, HBa⟩
      case round =>
        clear HO HBa
        obtain ⟨j, hj, rfl, HO, HB⟩ := hrel
        have hbr := HB.out.size
        by_cases hlt : j < k
        · have hkL : j < L.length := by rw [HN.out]; exact hlt
          obtain ⟨c0, c1⟩ := (HC.out.below HB.out hb) j hkL
          have HM := Lib.hid (map_snoc X L j hkL)
          have hlen : (X :: (L.take j).map (·.2)).length ≤ 49 := by simp; omega
          obtain ⟨M, hM⟩ : ∃ M, X :: (L.take j).map (·.2) = M := ⟨_, rfl⟩
          rw [hM] at HO HM hlen
          clear hM
          generalize L[j] = p at *
          obtain ⟨pb, pd⟩ := p
          simp only at c0 c1 HM
          go_wp2_with (at_builtin; go_loud (refine wpList_append_own _ rfl _ _ 22 rfl w.heap.size 9 i0 _ 1 16 Try.underlying22 hi hz0 hz1 HZ2.out rfl (by decide) _ _ _ rfl ((HO.out.alloc _).alloc _) _ 1 1 [.string pd] rfl rfl (one_cell (by simp)) one_one ?c3 ?c4 ?c5 ?_))
          case c3 => unfold maxLen; omega
          case c4 => omega
          case c5 => simp; omega
          intro v1 w1 hown hgrow _
          have HO1 : Hid (OwnS w.heap.size w1 v1 (X :: (L.take (j + 1)).map (·.2))) := by
            show OwnS _ _ _ _
            rw [HM.out]; exact own_push hown
          have HB1 : Hid (Below w.heap.size w w1) := ((HB.out.alloc hbr _).alloc (by simp; omega) _).grown hgrow (by simp; omega) (fun q hq => (HO.out.lt q hq).1)
          clear hown hgrow
          go_wp2
          go_roundw
          case rel => exact ⟨j + 1, by omega, by go_num, HO1, HB1⟩
          case measure => simp [intOf]; omega
        · have hjk : j = k := by omega
          subst hjk
          have HO2 : Hid (OwnS w.heap.size wr u10 (X :: L.map (·.2))) := by
            have := HO.out
            rw [List.take_of_length_le (by rw [HN.out]; exact Nat.le_refl _)] at this
            exact this
          clear HO
          obtain ⟨g, fc, hv, hfc, hg1, hg2, hst, hfr⟩ := HO2.out.here (by simp)
          have hX0 := hst 0 (by simp)
          have hf0 := hfr 0
          simp only [Nat.add_zero, List.getElem_cons_zero] at hX0
          have hbs := HB.out.size
          have HDL : Hid ((L.map (·.2)).length = j) := by show _ = _; rw [List.length_map]; exact HN.out
          rw [List.length_cons, HDL.out] at hfc hv
          subst hv
          obtain ⟨fc', rfl⟩ : ∃ f, fc = f + 1 := ⟨fc - 1, by omega⟩
          have CS : Hid (∀ W, Below wr.heap.size wr W → Calls Try.prog 86 #[.slice (some ⟨g, 0, none⟩) (j + 1) (fc' + 1)] W fun e w' => e = .returned (.int .u32 ((crcL (headL seq L ++ joinB (L.map (·.2))) : Nat) : Int)) ∧ Below W.heap.size W w') := by
            intro W hW
            have := sum_any X (L.map (·.2)) g 0 fc' W (by rw [HDL.out]; omega) (by rw [HDL.out]; omega) (by rw [HDL.out]; omega) (by rw [HX.out, bs_len, headL_len seq L (by rw [HN.out]; omega)]; exact Nat.le_refl _) (fun d hd => by
              obtain ⟨x, hx, rfl⟩ := List.mem_map.1 hd
              rw [(HW.out x hx).2.2]; unfold maxLen; omega) (Nat.lt_of_lt_of_le hg2 hW.size) (hst.below hW hg2)
            rw [HDL.out, HX.out, data_bs, List.take_of_length_le (by rw [headL_len seq L (by rw [HN.out]; omega)]; exact Nat.le_refl _)] at this
            exact this
          obtain ⟨t4, z4, H4⟩ := fix_name (crcL (headL seq L ++ joinB (L.map (·.2))))
          have hsum := crcL_lt (headL seq L ++ joinB (L.map (·.2)))
          have HTOP : Hid (X ++ (t4 ++ ⟨#[67, 68, 88, 69]⟩) = bs (topL seq L)) := by
            show X ++ (t4 ++ bs cdxe) = _
            rw [HX.out, ← H4.out, bs_append, bs_append]; rfl
          have hXs : X.size ≤ 248 := by rw [HX.out, bs_len, headL_len seq L (by rw [HN.out]; omega)]; exact Nat.le_refl _
          have HFIN : Hid (∀ W, Below wr.heap.size wr W → OwnS w.heap.size (W.setCell ⟨g, 0, none⟩ (.string (X ++ (t4 ++ ⟨#[67, 68, 88, 69]⟩)))) (.slice (some ⟨g, 0, none⟩) (j + 1) (fc' + 1)) (packL seq L)) := by
            intro W hW
            have e : (X :: L.map (·.2)).length = j + 1 := by rw [List.length_cons, HDL.out]
            have h0 := HO2.out.below hW
            rw [← e] at h0 ⊢
            have h3 := h0.store 0 (X ++ (t4 ++ ⟨#[67, 68, 88, 69]⟩))
            rw [List.set_cons_zero, HTOP.out] at h3
            rw [HTOP.out]
            exact h3
          generalize crcL (headL seq L ++ joinB (L.map (·.2))) = sm at *
          have HST := Lib.hid hst; clear hst
          have HFR := Lib.hid hfr; clear hfr
          have j0 : (0 : Int) < (j : Int) + 1 := by omega
          go_wp2_with fail
          go_region_with (first
            | (go_at_call 86; refine (CS.out _ ((Below.refl _ _).drew)).mono ?_; rintro e w7 ⟨rfl, hb7⟩; have HB7 := Lib.hid (below_predrew hb7); have hX7 := (HB7.out.cell (p := ⟨g, 0, none⟩) hg2).trans hX0; have hf7 := (HB7.out.frozen (p := ⟨g, 0, none⟩) hg2).trans hf0; clear hb7)
            | (go_at_call 83; refine (fixed_to _ _ _ _ rfl hsum H4).mono ?_; rintro e w8 ⟨rfl, hb8⟩; have HB8 := Lib.hid (HB7.out.trans (hb8.mono HB7.out.size)); have hX8 := (HB8.out.cell (p := ⟨g, 0, none⟩) hg2).trans hX0; have hf8 := (HB8.out.frozen (p := ⟨g, 0, none⟩) hg2).trans hf0; clear hb8))
          all_goals
            go_wp2
            go_ret2
            exact ⟨_, rfl, HFIN.out _ HB8.out, (HB.out.trans (HB8.out.mono hbs)).setCell hg1 _⟩

theorem pack_any (seq : Nat) (L : List (Int × ByteArray)) (v : Value) (w : World) (hseq : seq < 18446744073709551616) (hl : L.length ≤ 1000) (hs : ∀ x ∈ L, x.2.size ≤ maxLen) (h : SlW w v L) :
    Calls Try.prog 61 #[.int .u64 (seq : Int), v] w fun e w' => ∃ u, e = .returned (.tuple #[u, .int .i64 (((pk seq L).2 : Nat) : Int)]) ∧ OwnS w.heap.size w' u (pk seq L).1 ∧ Below w.heap.size w w' := by
  unfold pk
  by_cases hc : chk L = 0
  · rw [if_pos hc]
    exact pack_yes seq L v w hseq h hc
  · rw [if_neg hc]
    exact (pack_no seq L v w hl hs h hc).mono fun e w' ⟨he, hb⟩ => ⟨_, he, OwnS.nil _ _, hb⟩
end Go.Proofs.Ytodfcbpimglhdaa.Fr
