/- What the document's own Unpack answers: the same. -/
import Derived.Test.YthambopnmhkeeaaGreatZFHeadR
import Derived.Test.YthambopnmhkeeaaGreatZJSlot
import Derived.Test.YthambopnmhkeeaaGreatZCalls2
import Derived.Deep.RegionHeld3
import Derived.IntWalk

namespace Go.Proofs.YthambopnmhkeeaaGreat.Fr
open Go.RowKit

theorem zip_snoc (bl : List Int) (D : List ByteArray) (k : Nat) (h1 : k < bl.length) (h2 : k < D.length) : (bl.take (k + 1)).zip (D.take (k + 1)) = (bl.take k).zip (D.take k) ++ [(bl[k], D[k])] := by
  rw [List.take_succ_eq_append_getElem h1, List.take_succ_eq_append_getElem h2, List.zip_append (by rw [List.length_take, List.length_take]; omega)]
  rfl
theorem held_one {w W W' : World} {g o : Nat} {T : ByteArray} (hg : g < w.heap.size) (h : Below w.heap.size w W /\ W.cell? ⟨g, o, none⟩ = some (.string T)) (hb : Below W.heap.size W W') : Below w.heap.size w W' /\ W'.cell? ⟨g, o, none⟩ = some (.string T) :=
  ⟨h.1.trans (hb.mono h.1.size), (hb.cell (p := ⟨g, o, none⟩) (Nat.lt_of_lt_of_le hg h.1.size)).trans h.2⟩
theorem joinB_snoc (D : List ByteArray) (k : Nat) (h : k < D.length) {T : ByteArray} (hT : T = bs (joinB (D.take k))) : T ++ D[k] = bs (joinB (D.take (k + 1))) := by
  rw [hT, joinB_take D k h, <- bs_append, bs_data]

set_option maxRecDepth 100000 in
set_option maxHeartbeats 1000000 in
theorem runpack_none (ao : Option Addr) (c : Nat) (w : World) :
    Calls Tryz.prog 182 #[.slice ao 0 c] w fun e w' => e = .returned (.tuple #[.int .u64 0, .slice none 0 0, .int .i64 7]) /\ Below w.heap.size w w' := by
  go_enter Tryz.func182, Tryz.ntmps182
  go_wp2
  go_ret3
  exact ⟨rfl, Below.refl _ _⟩
set_option maxRecDepth 100000 in
set_option maxHeartbeats 1000000 in
theorem runpack_nohead (s : ByteArray) (m b off c : Nat) (w : World) (h : headB s.data.toList = false) (hm : m <= 1000) (hc : w.cell? ⟨b, off, none⟩ = some (.string s)) :
    Calls Tryz.prog 182 #[.slice (some ⟨b, off, none⟩) (m + 1) c] w fun e w' => e = .returned (.tuple #[.int .u64 0, .slice none 0 0, .int .i64 7]) /\ Below w.heap.size w w' := by
  have C := Lib.hid (rblocks_no s w h)
  clear h
  have h0 : (((m : Int) + 1) == 0) = false := beq_eq_false_iff_ne.2 (by omega)
  go_enter Tryz.func182, Tryz.ntmps182
  go_wp2_with fail
  refine C.out.mono ?_
  rintro e w1 ⟨rfl, hb1⟩
  have HB := Lib.hid hb1; clear hb1 C
  go_wp2
  go_ret3
  exact ⟨rfl, HB.out⟩
set_option maxRecDepth 100000 in
set_option maxHeartbeats 1000000 in
theorem runpack_few (s : ByteArray) (m b off c : Nat) (w : World) (h : headB s.data.toList = true) (hm : m <= 1000) (hn : m < nmAt s.data.toList 12) (hc : w.cell? ⟨b, off, none⟩ = some (.string s)) :
    Calls Tryz.prog 182 #[.slice (some ⟨b, off, none⟩) (m + 1) c] w fun e w' => e = .returned (.tuple #[.int .u64 0, .slice none 0 0, .int .i64 7]) /\ Below w.heap.size w w' := by
  have C := Lib.hid (rblocks_yes s w h)
  have HBL := Lib.hid (blocksOf_len s.data.toList)
  clear h
  have h0 : (((m : Int) + 1) == 0) = false := beq_eq_false_iff_ne.2 (by omega)
  generalize seqOf s.data.toList = sq at *
  generalize blocksOf s.data.toList = bl at *
  generalize nmAt s.data.toList 12 = n at *
  go_enter Tryz.func182, Tryz.ntmps182
  go_wp2_with fail
  refine C.out.mono ?_
  rintro e w1 ⟨v, rfl, ho, hb1⟩
  have HB := Lib.hid hb1; clear hb1 C
  obtain ⟨ao, c2, hv⟩ := ho.shape
  rw [HBL.out] at hv
  subst hv
  clear ho
  go_wp2
  go_ret3
  exact ⟨rfl, HB.out⟩

set_option maxRecDepth 100000 in
set_option maxHeartbeats 4000000 in
theorem runpack_head (s : ByteArray) (D : List ByteArray) (b off c : Nat) (w : World) (R : Ending -> World -> Prop) (h : headB s.data.toList = true) (hm : D.length <= 1000) (hn : nmAt s.data.toList 12 <= D.length) (hb : b < w.heap.size) (hD : ∀ d ∈ D, d.size <= maxLen)
    (hc : StrsAt w b off (s :: D))
    (hform : (¬ ∀ d ∈ D.take (nmAt s.data.toList 12), d.size = 256) -> ∀ w', Below w.heap.size w w' -> R (.returned (.tuple #[.int .u64 0, .slice none 0 0, .int .i64 7])) w')
    (hsum : (∀ d ∈ D.take (nmAt s.data.toList 12), d.size = 256) -> sumB s D = false -> ∀ w', Below w.heap.size w w' -> R (.returned (.tuple #[.int .u64 0, .slice none 0 0, .int .i64 8])) w')
    (hok : (∀ d ∈ D.take (nmAt s.data.toList 12), d.size = 256) -> sumB s D = true -> ∀ v w', OwnW w.heap.size w' v ((blocksOf s.data.toList).zip (D.take (nmAt s.data.toList 12))) -> Below w.heap.size w w' -> R (.returned (.tuple #[.int .u64 ((seqOf s.data.toList : Nat) : Int), v, .int .i64 0])) w') :
    Calls Tryz.prog 182 #[.slice (some ⟨b, off, none⟩) (D.length + 1) c] w R := by
  obtain ⟨i0, hi, hz0, hz1, hz2⟩ := info_parts Tryz.infoW
  have HZ2 := Lib.hid hz2; clear hz2
  obtain ⟨k1, k2, k3, k4, k5, k6⟩ := (headB_iff _).1 h
  have hsz : s.size = 256 := by rw [<- str_len, k1]
  have C := Lib.hid (rblocks_yes s w h)
  have HBL := Lib.hid (blocksOf_len s.data.toList)
  have hc0 := hc 0 (by simp)
  simp only [Nat.add_zero, List.getElem_cons_zero] at hc0
  have HC := Lib.hid hc.tail
  have HF := Lib.hid hform
  have HS := Lib.hid hsum
  have HO := Lib.hid hok
  have HDD := Lib.hid hD
  have h248 := nmAt_lt s.data.toList 248
  have hcl := crcL_lt (s.data.toList.take 248 ++ joinB (D.take (nmAt s.data.toList 12)))
  have HSB : Hid (sumB s D = (nmAt s.data.toList 248 == crcL (s.data.toList.take 248 ++ joinB (D.take (nmAt s.data.toList 12))))) := rfl
  obtain ⟨X, hX⟩ : ∃ X, s.extract 0 248 = X := ⟨_, rfl⟩
  obtain ⟨Y, hY⟩ : ∃ Y, s.extract 248 252 = Y := ⟨_, rfl⟩
  have HXL : Hid (X = bs (s.data.toList.take 248)) := by show _ = _; rw [<- hX]; exact ext_to s _ rfl 248
  have HYL : Hid (Y = bs ((s.data.toList.take 252).drop 248)) := by
    show _ = _
    have := bs_ext s.data.toList 248 252
    rw [bs_data] at this
    rw [<- hY, this]
  have zX : X.size <= 248 := by rw [HXL.out, bs_len, List.length_take]; omega
  have HFOUR := Lib.hid (fun v hv => four_iff s.data.toList 248 v (by omega) hv)
  clear hD hc h k1 k2 k3 k6 hform hsum hok
  have HCRC : Hid (∀ W T, T = bs (joinB (D.take (nmAt s.data.toList 12))) -> (X ++ T).size <= maxLen -> Calls Tryz.prog 184 #[.string (X ++ T)] W fun e w' => e = .returned (.int .u32 ((crcL (s.data.toList.take 248 ++ joinB (D.take (nmAt s.data.toList 12))) : Nat) : Int)) /\ W = w') := fun W T hT hz => by
    have := rcrc_any (X ++ T) W hz
    rw [HXL.out, hT, bs_append, data_bs] at this
    rw [HXL.out, hT, bs_append]
    exact this
  generalize crcL (s.data.toList.take 248 ++ joinB (D.take (nmAt s.data.toList 12))) = sm at *
  obtain ⟨t4, z4, H4⟩ := fix_name sm
  have HCMP : Hid (Y = t4 ↔ nmAt s.data.toList 248 = sm) := by
    rw [HYL.out, <- H4.out]
    constructor
    . intro e; exact (HFOUR.out sm hcl).1 (bs_eq e)
    . intro e; exact congrArg bs ((HFOUR.out sm hcl).2 e)
  generalize seqOf s.data.toList = sq at *
  generalize nmAt s.data.toList 248 = told at *
  generalize blocksOf s.data.toList = bl at *
  generalize nmAt s.data.toList 12 = n at *
  clear HFOUR HYL HXL
  obtain ⟨m, hmm⟩ : ∃ m, D.length = m := ⟨_, rfl⟩
  rw [hmm] at hm hn ⊢
  have HM := Lib.hid hmm; clear hmm
  have HSZ := Lib.hid hsz
  have s1 : s.size <= 256 := by omega
  have s2 : (252 : Int) <= (s.size : Int) := by omega
  have s3 : (248 : Int) <= (s.size : Int) := by omega
  clear hsz
  have h0 : (((m : Int) + 1) == 0) = false := beq_eq_false_iff_ne.2 (by omega)
  have h1 : ¬ ((m : Int) + 1 <= (n : Int)) := by omega
  go_enter Tryz.func182, Tryz.ntmps182
  go_wp2_with fail
  refine C.out.mono ?_
  rintro e w1 ⟨v, rfl, ho, hb1⟩
  have HB1 := Lib.hid hb1
  obtain ⟨gi, ci, hv, hgi, hci⟩ := ho.here (by rw [HBL.out]; omega)
  rw [HBL.out] at hv
  subst hv
  have HCI := Lib.hid hci
  clear ho hb1 C hci
  go_wp2_with fail
  go_loopw [8, 9, 10] (fun t wv i wr => ∃ k T, k <= n /\ i = .int .i64 ((k : Nat) : Int) /\ t = .string T /\ T.size <= 256 * k /\ Hid (T = bs (joinB (D.take k))) /\ Hid (∀ d ∈ D.take k, d.size = 256) /\ Hid (OwnW w1.heap.size wr wv ((bl.take k).zip (D.take k))) /\ Hid (Below w1.heap.size w1 wr)) (fun _ _ i _ => n - (intOf i).toNat)
  case atStart => exact ⟨0, _, Nat.zero_le _, rfl, rfl, Nat.le_refl _, rfl, (fun d hd => by simp at hd), OwnW.nil _ _, Below.refl _ _⟩
  case round =>
    obtain ⟨k, T, hk, rfl, rfl, hTz, HT, HK, HOK, HB⟩ := hrel
    have hbr := HB.out.size
    have HBW := Lib.hid (HB1.out.trans (HB.out.mono HB1.out.size))
    by_cases hlt : k < n
    . have hkD : k < D.length := by rw [HM.out]; omega
      have hkB : k < bl.length := by rw [HBL.out]; exact hlt
      have hsrc := (HC.out.below HBW.out hb) k hkD
      have hint := (HB.out.cell (p := ⟨gi, k, none⟩) hgi).trans (HCI.out k hkB)
      have HTK : Hid (D.take (k + 1) = D.take k ++ [D[k]]) := List.take_succ_eq_append_getElem hkD
      have HMEM : Hid (D[k] ∈ D.take n) := by
        rw [List.mem_take_iff_getElem]
        exact ⟨k, by omega, rfl⟩
      have HZS := Lib.hid (zip_snoc bl D k hkB hkD)
      have HJS := Lib.hid (joinB_snoc D k hkD HT.out)
      have hdz := HDD.out D[k] (List.getElem_mem hkD)
      unfold maxLen at hdz
      have hzl : ((bl.take k).zip (D.take k)).length <= 48 := by rw [List.length_zip, List.length_take]; omega
      generalize D[k] = d at *
      generalize bl[k] = bk at *
      have hsum1 : off + 1 + k = off + (1 + k) := by omega
      rw [hsum1] at hsrc
      clear hsum1
      have i2 : (1 : Int) + (k : Int) < (m : Int) + 1 := by omega
      have i3 : (k : Int) < (n : Int) := by omega
      by_cases hd : d.size = 256
      . have HK2 : Hid (∀ d ∈ D.take (k + 1), d.size = 256) := by
          intro x hx
          rw [HTK.out] at hx
          rcases List.mem_append.1 hx with hx | hx
          . exact HK.out x hx
          . simp at hx; rw [hx]; exact hd
        have hne : ((d.size : Int) != 256) = false := by simp; omega
        have hdz2 : d.size <= 256 := by omega
        clear hd
        obtain ⟨Z, hZ⟩ : ∃ Z, (bl.take k).zip (D.take k) = Z := ⟨_, rfl⟩
        rw [hZ] at HOK HZS hzl
        clear hZ
        obtain ⟨ao2, c2, hv2, _⟩ := HOK.out.sl
        subst hv2
        go_wp2_with fail
        have i5 : (0 : Int) <= 1 + (k : Int) := by omega
        have e2 : (1 + (k : Int)).toNat = 1 + k := by omega
        have e1 : IntKind.i64.wrap (1 + (k : Int)) = 1 + (k : Int) := IntWalk.i64_in _ (by omega)
        go_region_law (first
          | (refine step_append_own rfl (.tmp 51) (.tmp 62) 49 rfl w1.heap.size 63 i0 (.agg #[.int .i64 0, .string ⟨#[]⟩]) 2 24 Tryz.underlying49 hi hz0 hz1 HZ2.out rfl (by omega) (.slice ao2 Z.length c2) Z.length (flatI Z) (by kernel_rfl) ?own ⟨wr.heap.size, 0, none⟩ 1 1 [.int .i64 bk, .string d] (by kernel_rfl) rfl (two_cells rfl) two_one (by unfold maxLen; omega) (by omega) ?base ?_
             case own => exact (own_below HOK.out (Below.refl _ _).drew).alloc _
             case base => simp; omega
             intro v1 w3 hown hgrow
             have HO3 := Lib.hid (own_pushW hown)
             have HB3 : Hid (Below w1.heap.size w1 w3) := ((HB.out.drew).alloc hbr _).grown hgrow (by simp; omega) (fun q hq => (HOK.out.lt q hq).1)
             clear hown hgrow))
        all_goals
          clear e1 e2
          go_wp2
          go_roundw
          case rel => exact ⟨k + 1, _, by omega, by go_num, rfl, by simp; omega, HJS, HK2, by show OwnW _ _ _ _; rw [HZS.out]; exact HO3.out, HB3⟩
          case measure => simp [intOf]; omega
      . have HNO : Hid (¬ ∀ d ∈ D.take n, d.size = 256) := fun hh => hd (hh _ HMEM.out)
        have hne : ((d.size : Int) != 256) = true := by simp; omega
        clear hd
        go_wp2
        go_ret3
        exact HF.out HNO.out _ HBW.out
    . have hkn : k = n := by omega
      subst hkn
      have hc0r := (HBW.out.cell (p := ⟨b, off, none⟩) hb).trans hc0
      have hbr2 : b < wr.heap.size := Nat.lt_of_lt_of_le hb HBW.out.size
      have HZF : Hid (OwnW w1.heap.size wr u9 (bl.zip (D.take k))) := by
        have := HOK.out
        rw [List.take_of_length_le (l := bl) (by rw [HBL.out]; exact Nat.le_refl _)] at this
        exact this
      have CRC := Lib.hid (fun W => HCRC.out W T HT.out (by simp; unfold maxLen; omega))
      clear HCRC HOK
      have i3 : ¬ (k : Int) < (k : Int) := by omega
      have hadd : ¬ 9223372036854775807 < X.size + T.size := by omega
      by_cases ht : told = sm
      . have HTT : Hid (sumB s D = true) := by show _ = _; rw [HSB.out]; simpa using ht
        have hcmp := str_same (HCMP.out.2 ht)
        have hcmp2 : (!(Y.toList == t4.toList)) = false := by rw [hcmp]; rfl
        clear ht hcmp
        go_wp2_with fail
        go_region_held3 (fun W => Below wr.heap.size wr W /\ W.cell? ⟨b, off, none⟩ = some (.string s))
          (first | exact ⟨(Below.refl _ _).drew, hc0r⟩ | exact held_one hbr2 (by assumption) (by assumption))
          (first
            | (go_at_call 184; refine (CRC.out _).mono ?_; rintro e w' ⟨rfl, rfl⟩)
            | (go_at_call 143; refine (rfixed_to _ _ _ _ rfl hcl H4).mono ?_; rintro e w' ⟨rfl, hbx⟩))
        rename_i hHeld
        have HBF := Lib.hid (HB1.out.trans ((HB.out.trans (hHeld.1.mono hbr)).mono HB1.out.size))
        have HOF := Lib.hid ((HZF.out.below hHeld.1).mono HB1.out.size)
        clear hHeld hbx hcmp2
        go_wp2
        go_ret3
        exact HO.out HK.out HTT.out _ _ HOF.out HBF.out
      . have HTT : Hid (sumB s D = false) := by show _ = _; rw [HSB.out]; simpa using ht
        have hcmp := str_diff (fun e => ht (HCMP.out.1 e))
        have hcmp2 : (!(Y.toList == t4.toList)) = true := by rw [hcmp]; rfl
        clear ht hcmp
        go_wp2_with fail
        go_region_held3 (fun W => Below wr.heap.size wr W /\ W.cell? ⟨b, off, none⟩ = some (.string s))
          (first | exact ⟨(Below.refl _ _).drew, hc0r⟩ | exact held_one hbr2 (by assumption) (by assumption))
          (first
            | (go_at_call 184; refine (CRC.out _).mono ?_; rintro e w' ⟨rfl, rfl⟩)
            | (go_at_call 143; refine (rfixed_to _ _ _ _ rfl hcl H4).mono ?_; rintro e w' ⟨rfl, hbx⟩))
        rename_i hHeld
        have HBF := Lib.hid (HB1.out.trans ((HB.out.trans (hHeld.1.mono hbr)).mono HB1.out.size))
        clear hHeld hbx hcmp2
        go_wp2
        go_ret3
        exact HS.out HK.out HTT.out _ HBF.out

theorem runpack_any (L : List ByteArray) (v : Value) (w : World) (hl : L.length <= 1000) (hs : ∀ d ∈ L, d.size <= maxLen) (h : SlS w v L) :
    Calls Tryz.prog 182 #[v] w fun e w' => ∃ u, e = .returned (.tuple #[.int .u64 (((unp L).1 : Nat) : Int), u, .int .i64 (((unp L).2.2 : Nat) : Int)]) /\ OwnW w.heap.size w' u (unp L).2.1 /\ Below w.heap.size w w' := by
  cases L with
  | nil =>
    obtain ⟨ao, c, rfl, _⟩ := h
    exact (runpack_none ao c w).mono fun e w' ⟨he, hb⟩ => ⟨_, he, OwnW.nil _ _, hb⟩
  | cons s D =>
    obtain ⟨b, off, c, rfl, hcap, hb, hc⟩ := h.here (by simp)
    have hc0 := hc 0 (by simp)
    simp only [Nat.add_zero, List.getElem_cons_zero] at hc0
    have hl' : D.length <= 1000 := by simp at hl; omega
    rw [unp_cons]
    cases hh : headB s.data.toList with
    | false =>
      have hf : ¬ formB s D = true := fun hf => by rw [((formB_iff s D).1 hf).1] at hh; cases hh
      rw [if_neg hf]
      exact (runpack_nohead s D.length b off c w hh hl' hc0).mono fun e w' ⟨he, hb⟩ => ⟨_, he, OwnW.nil _ _, hb⟩
    | true =>
      by_cases hn : nmAt s.data.toList 12 <= D.length
      . refine runpack_head s D b off c w _ hh hl' hn hb (fun d hd => hs d (List.mem_cons_of_mem _ hd)) hc ?_ ?_ ?_
        . intro hno w' hb
          have hf : ¬ formB s D = true := fun hf => hno ((formB_iff s D).1 hf).2.2
          rw [if_neg hf]
          exact ⟨_, rfl, OwnW.nil _ _, hb⟩
        . intro hall hsm w' hb
          rw [if_pos ((formB_iff s D).2 ⟨hh, hn, hall⟩), if_neg (by rw [hsm]; decide)]
          exact ⟨_, rfl, OwnW.nil _ _, hb⟩
        . intro hall hsm v w' ho hb
          rw [if_pos ((formB_iff s D).2 ⟨hh, hn, hall⟩), if_pos hsm]
          exact ⟨_, rfl, ho, hb⟩
      . have hf : ¬ formB s D = true := fun hf => hn ((formB_iff s D).1 hf).2.1
        rw [if_neg hf]
        exact (runpack_few s D.length b off c w hh hl' (by omega) hc0).mono fun e w' ⟨he, hb⟩ => ⟨_, he, OwnW.nil _ _, hb⟩
end Go.Proofs.YthambopnmhkeeaaGreat.Fr
