/- BlockOthers, where the statement does not end early: the walk. -/
import Derived.Test.YtlikbfdfaccekaaOthers2
namespace Go.Proofs.Ytlikbfdfaccekaa
open Go.RowKit

theorem held_one {wd W W' : World} {g j : Nat} {X : ByteArray} (h : Below wd.heap.size wd W ∧ W.cell? ⟨g, j, none⟩ = some (.string X)) (hb : Below W.heap.size W W') : Below wd.heap.size wd W' ∧ W'.cell? ⟨g, j, none⟩ = some (.string X) :=
  ⟨h.1.trans (hb.mono h.1.size), (hb.cell (World.block_lt_of_cell? _ _ h.2)).trans h.2⟩

set_option maxRecDepth 100000 in
set_option maxHeartbeats 8000000 in
theorem others_main (n : Int) (v : Value) (A : ActS) (at_ : Int) (L : List ActS) (w : World) (hn : -9223372036854775808 ≤ n ∧ n ≤ 9223372036854775807) (hat : -9223372036854775808 ≤ at_ ∧ at_ ≤ 9223372036854775807) (h : Acts w v L) (hA : A.Ok w) (hsm : smallB L = true) (hk200 : A.keep.length ≤ 200) (hd600 : A.data.size ≤ 600) :
    Calls Try.prog 5 #[.int .i64 n, v, .agg #[.int .i64 A.op, .int .i64 A.at_, .int .i64 A.n, .slice A.kao A.keep.length A.kcap, .string A.data], .int .i64 at_] w fun e w' => e = .returned (.bool true) ∧ Below w.heap.size w w' := by
  obtain ⟨ao, cap, hv⟩ : ∃ ao cap, v = .slice ao L.length cap := by obtain ⟨_, _, ao, cap, hv, _⟩ := h; exact ⟨ao, cap, hv⟩
  obtain ⟨wb, hwb⟩ : ∃ wb, w.alloc (.cells #[.int .i64 A.op, .int .i64 A.at_, .int .i64 A.n, .slice A.kao A.keep.length A.kcap, .string A.data] 37) = wb := ⟨_, rfl⟩
  have hbk : wb.heap[w.heap.size]? = some (.cells #[.int .i64 A.op, .int .i64 A.at_, .int .i64 A.n, .slice A.kao A.keep.length A.kcap, .string A.data] 37 (0, 0)) := by rw [← hwb, heap_alloc_new]
  have hb0 : Below w.heap.size w wb := by rw [← hwb]; exact (Below.refl _ _).alloc (Nat.le_refl _) _
  have hz : w.heap.size < wb.heap.size := by rw [← hwb]; simp
  obtain ⟨b, hb⟩ : ∃ b, w.heap.size = b := ⟨_, rfl⟩
  have HBX : Hid (∀ W, Below wb.heap.size wb W → W.cell? ⟨b, 1, none⟩ = some (.int .i64 A.at_) ∧ W.cell? ⟨b, 2, none⟩ = some (.int .i64 A.n) ∧ W.cell? ⟨b, 3, none⟩ = some (.slice A.kao A.keep.length A.kcap) ∧ W.cell? ⟨b, 4, none⟩ = some (.string A.data)) := by
    intro W hW
    rw [← hb]
    refine ⟨?_, ?_, ?_, ?_⟩ <;> rw [hW.cell (p := ⟨w.heap.size, _, none⟩) hz, cell_at hbk] <;> rfl
  have HA := Lib.hid (h.mono hb0); have HWB := Lib.hid hwb; have HB0 := Lib.hid hb0; have HOA := Lib.hid (hA.mono hb0); have HSM := Lib.hid hsm
  have HFin : Hid (∀ W, Below wb.heap.size wb W → Below w.heap.size w W) := fun W hW => HB0.out.trans (hW.mono (by omega))
  clear h hwb hbk hb0 hA hsm hz
  obtain ⟨m, hm⟩ : ∃ m, L.length = m := ⟨_, rfl⟩
  rw [hm] at hv
  clear hm
  subst hv
  obtain ⟨X, hX⟩ : ∃ X, textOf (fun _ => 120) = X := ⟨_, rfl⟩
  have HXs : Hid (X.size = 256) := by show X.size = 256; rw [← hX]; exact textOf_size _
  have HXb : Hid (∀ c (h : c < X.size), (X[c]).toNat = 120) := by
    intro c hc; subst hX; exact x_byte c hc
  have HFX : Hid (∀ W, Calls Try.prog 28 #[.int .u8 120] W fun e w' => e = .returned (.string X) ∧ Below W.heap.size W w') := by
    intro W; have := full_any 120 W; rw [hX] at this; exact this
  clear hX
  go_enter Try.func5, Try.ntmps5
  go_wp2_with fail
  rw [HWB.out]
  refine (shown_any _).mono ?_
  rintro e w1 ⟨rfl, hb1⟩
  have c := small_any HA.out hb1; rw [HSM.out] at c
  have C := Lib.hid c; clear c
  obtain ⟨_, _, k3, k4⟩ := HBX.out w1 hb1
  have HB1 := Lib.hid hb1; clear hb1
  go_wp2_with fail
  refine C.out.mono ?_
  rintro e w1' ⟨rfl, rfl⟩
  clear C
  have C := Lib.hid (made_any n _ L _ hn (HA.out.mono HB1.out) HSM.out)
  go_wp2_with fail
  refine C.out.mono ?_
  rintro e w2 ⟨p, rfl, hd⟩
  clear C k3 k4
  have hlen : (madeD n L).pend.length ≤ 1000000 := by have := madeD_len n L; have := small_len HSM.out; omega
  obtain ⟨S, hO⟩ := One.of_at (At.of_fresh HB1.out hd)
  have HO := Lib.hid hO; have HLen := Lib.hid hlen
  clear hd HB1 hO hlen
  generalize madeD n L = D at *
  have C := Lib.hid (dead_any HO.out.d)
  by_cases hde : D.dead = true
  · rw [hde] at C
    clear hde
    go_wp2_with fail
    refine C.out.mono ?_
    rintro e w2' ⟨rfl, rfl⟩
    go_wp2
    go_ret
    exact ⟨rfl, HFin.out _ HO.out.bel⟩
  have hdf : D.dead = false := by simpa using hde
  rw [hdf] at C
  clear hde
  have CF := Lib.hid (flush_any HLen.out HO.out.d)
  go_wp2_with fail
  refine C.out.mono ?_
  rintro e w2' ⟨rfl, rfl⟩
  clear C
  go_wp2_with fail
  refine CF.out.mono ?_
  rintro e w3 ⟨rfl, hd3, ho3⟩
  clear CF
  obtain ⟨⟨S3, hO3⟩, _⟩ := HO.out.step (.mk hd3 ho3)
  have HO3 := Lib.hid hO3
  clear hd3 ho3 hO3 HO
  by_cases hok : ¬ D.fl.1 = 0
  · have hok' : (D.fl.1 != 0) = true := by simpa using hok
    clear hok
    generalize D.fl.1 = r at *
    go_wp2
    go_ret
    exact ⟨rfl, HFin.out _ HO3.out.bel⟩
  have hok := Decidable.not_not.1 hok
  have hfg := fl_good D hok
  rw [hok]
  have HFG := Lib.hid hfg
  clear hok hfg hdf
  generalize D.fl.2 = F at *
  generalize D.fl.1 = r0 at *
  have hfew := HO3.out.d.ok.few
  have hsome := HO3.out.d.ok.some
  have HWh := Lib.hid HO3.out.d.ok.whole
  obtain ⟨nd, hnd⟩ : ∃ nd, F.disk.length = nd := ⟨_, rfl⟩
  have HND := Lib.hid hnd
  rw [hnd] at hfew hsome
  clear hnd
  have C := Lib.hid (HO3.out.diskP nd HND.out)
  go_wp2_with fail
  refine C.out.mono ?_
  rintro e w4 ⟨g1, cap1, rfl, hc1, hg1, hb4⟩
  clear C
  have HO4 : Hid (One (fun k => k = g1) S3 wb w4 p F) := (HO3.out.below hb4).more (fun k hk => .inr ⟨by subst hk; exact hg1.2, fun h' => by subst hk; have := HO3.out.d.lt _ h'; omega⟩)
  have HC1 := Lib.hid hc1
  clear hc1 hg1 hb4 HO3
  have C := Lib.hid (blocks_any HO4.out.d)
  rw [HND.out] at C
  go_wp2_with fail
  refine C.out.mono ?_
  rintro e w4' ⟨rfl, rfl⟩
  clear C
  have hpk := pickI_lt at_ nd (by omega)
  have C := Lib.hid (pick_any at_ nd w4 hat (by omega))
  obtain ⟨j, hj⟩ := Int.eq_ofNat_of_zero_le hpk.1
  rw [hj] at C hpk
  have hjn : j < nd := by omega
  clear hj hpk
  go_wp2_with fail
  refine C.out.mono ?_
  rintro e w4' ⟨rfl, rfl⟩
  clear C
  have C := Lib.hid (fuse_any (-1) (by omega) HO4.out.d)
  go_wp2_with fail
  refine C.out.mono ?_
  rintro e w5 ⟨rfl, hd5, ho5⟩
  clear C
  obtain ⟨⟨S5, hO5⟩, hk5⟩ := HO4.out.step (.mk hd5 ho5)
  have HO5 := Lib.hid hO5
  have HK5 : Hid (w5.heap[g1]? = w4.heap[g1]?) := hk5 g1 rfl
  clear hd5 ho5 hO5 hk5 HO4
  go_wp2_with fail
  refine (HFX.out _).mono ?_
  rintro e w6 ⟨rfl, hb6⟩
  have HO6 := Lib.hid (HO5.out.below hb6)
  have HK6 : Hid (w6.heap[g1]? = w4.heap[g1]?) := (hb6.block g1 (HO5.out.kp g1 rfl).1).trans HK5.out
  clear hb6 HO5 HK5
  have c := write_any j X (by rw [show (F.setFuse (-1)).pend = [] from HFG.out.1]; simp) HO6.out.d
  rw [ot_w (F.setFuse (-1)) j X HXs.out HFG.out.1 HFG.out.2 rfl (by show j < F.disk.length; rw [HND.out]; exact hjn)] at c
  have C := Lib.hid c; clear c
  go_wp2_with fail
  refine C.out.mono ?_
  rintro e w7 ⟨rfl, hl7⟩
  clear C
  obtain ⟨⟨S7, hO7⟩, hk7⟩ := HO6.out.step hl7
  have HO7 := Lib.hid hO7
  have HK7 : Hid (w7.heap[g1]? = w4.heap[g1]?) := (hk7 g1 rfl).trans HK6.out
  clear hl7 hO7 hk7 HO6 HK6
  have C := Lib.hid (pending_any (by simp) HO7.out.d)
  go_wp2_with fail
  refine C.out.mono ?_
  rintro e w8 ⟨v8, rfl, hp8, hb8⟩
  clear C
  obtain ⟨ao8, cap8, rfl⟩ := own_shape hp8
  have HO8 := Lib.hid (HO7.out.below hb8)
  have HK8 : Hid (w8.heap[g1]? = w4.heap[g1]?) := (hb8.block g1 (HO7.out.kp g1 rfl).1).trans HK7.out
  clear hp8 hb8 HO7 HK7
  have c := read_any j (by simp) HO8.out.d
  rw [ot_r { F.setFuse (-1) with pend := [(j, X)] } j X HFG.out.2 (by show j < F.disk.length; rw [HND.out]; exact hjn) rfl] at c
  have C := Lib.hid c; clear c
  go_wp2_with fail
  refine C.out.mono ?_
  rintro e w9 ⟨rfl, hb9⟩
  clear C
  have HO9 := Lib.hid (HO8.out.below hb9)
  have HK9 : Hid (w9.heap[g1]? = w4.heap[g1]?) := (hb9.block g1 (HO8.out.kp g1 rfl).1).trans HK8.out
  clear hb9 HO8 HK8
  obtain ⟨k1, k2, k3, k4⟩ := HBX.out w9 HO9.out.bel
  have hvv : Bools S7 w9 (.slice A.kao A.keep.length A.kcap) A.keep := by
    refine ⟨_, _, rfl, ?_⟩
    rcases HOA.out.keeps with h | ⟨g, off, e, hg, hc⟩
    · exact .inl h
    · exact .inr ⟨g, off, e, fun h => by have := HO9.out.b g h; omega, fun i hi => (HO9.out.bel.cell (p := ⟨g, off + i, none⟩) hg).trans (hc i hi)⟩
  have C := Lib.hid (crash_any A.keep A.at_ A.n _ (by simp) (by omega) HO9.out.d hvv)
  clear hvv
  go_wp2_with fail
  refine C.out.mono ?_
  rintro e wa ⟨rfl, hda, hoa⟩
  clear C k1 k2 k3 k4
  obtain ⟨⟨Sa, hOa⟩, hka⟩ := HO9.out.step (.mk hda hoa)
  have HKa : Hid (wa.heap[g1]? = w4.heap[g1]?) := (hka g1 rfl).trans HK9.out
  have HOa := Lib.hid hOa
  clear hda hoa hOa hka HO9 HK9
  obtain ⟨mm, hmm⟩ : ∃ mm, left A.keep A.at_ (min (max A.n 0) 256).toNat 0 = mm := ⟨_, rfl⟩
  have hm256 : mm ≤ 256 := by rw [← hmm]; exact left_le _ _ _ _ (by omega)
  have edisk := ot_c { F.setFuse (-1) with pend := [(j, X)] } j X A.keep A.at_ A.n rfl
  rw [hmm] at edisk
  have edisk : (DevS.crash { F.setFuse (-1) with pend := [(j, X)] } A.keep A.at_ A.n).disk = F.disk.set j (layB X (F.disk.getD j ByteArray.empty) mm) := edisk
  have C := Lib.hid (HOa.out.diskP nd (by rw [edisk, List.length_set]; exact HND.out))
  rw [edisk] at C
  clear edisk
  have HMM := Lib.hid hmm; clear hmm
  go_wp2_with fail
  refine C.out.mono ?_
  rintro e wc ⟨g2, cap2, rfl, hc2, hg2, hbc⟩
  clear C
  have HOc := Lib.hid (HOa.out.below hbc)
  have HWas : Hid (∀ W, Below wc.heap.size wc W → ∀ i, i < nd → W.cell? ⟨g1, i, none⟩ = some (.string (F.disk.getD i ByteArray.empty)) ∧ W.cell? ⟨g2, i, none⟩ = some (.string ((F.disk.set j (layB X (F.disk.getD j ByteArray.empty) mm)).getD i ByteArray.empty))) := by
    intro W hW i hi
    have h1 := HC1.out i hi
    have hga := (HOa.out.kp g1 rfl).1
    refine ⟨?_, ?_⟩
    · rw [hW.cell (p := ⟨g1, i, none⟩) (Nat.lt_of_lt_of_le hga hbc.size), hbc.cell (p := ⟨g1, i, none⟩) hga, World.cell?_of_block (w := w4) HKa.out]
      exact h1
    · rw [hW.cell (p := ⟨g2, i, none⟩) hg2.2]; exact hc2 i hi
  clear hc2 hg2 hbc HOa HKa HC1
  go_wp2_with fail
  go_loopw [18] (fun i wr => ∃ k q : Nat, k ≤ nd ∧ i = .int .i64 k ∧ wr = wc.drewN q) (fun i _ => nd - (intOf i).toNat)
  case atStart => exact ⟨0, 0, Nat.zero_le _, rfl, rfl⟩
  case round =>
    obtain ⟨k, q, hk, rfl, rfl⟩ := hrel
    by_cases hlt : k < nd
    · obtain ⟨c1, c2⟩ := HWas.out wc (Below.refl _ _) k hlt
      have hkz : (k : Int) < (nd : Int) := by omega
      have hk0 : (0 : Int) ≤ (k : Int) := by omega
      by_cases hkj : k = j
      · have hne : ((k : Int) != (j : Int)) = false := by simp [hkj]
        have HKJ := Lib.hid hkj; clear hkj
        generalize F.disk.getD k ByteArray.empty = O1 at *
        generalize (F.disk.set j (layB X (F.disk.getD j ByteArray.empty) mm)).getD k ByteArray.empty = O2 at *
        go_wp2
        go_quiet (fail)
        go_wp2
        go_roundw
        case rel => exact ⟨k + 1, _, by omega, by go_num, rfl⟩
        case measure => simp [intOf]; omega
      · have hne : ((k : Int) != (j : Int)) = true := by simp; omega
        have e2 : (F.disk.set j (layB X (F.disk.getD j ByteArray.empty) mm)).getD k ByteArray.empty = F.disk.getD k ByteArray.empty := by
          simp [List.getD, Ne.symm hkj]
        rw [e2] at c2
        clear hkj e2
        generalize F.disk.getD k ByteArray.empty = O1 at *
        go_wp2
        go_quiet (fail)
        go_wp2
        go_roundw
        case rel => exact ⟨k + 1, _, by omega, by go_num, rfl⟩
        case measure => simp [intOf]; omega
    · have hge : (nd : Int) ≤ (k : Int) := by omega
      clear hlt hk
      have HBq : Hid (Below wc.heap.size wc (wc.drewN q)) := below_drewN (Below.refl _ _) q
      generalize wc.drewN q = wd at *
      have HBd : Hid (Below wb.heap.size wb wd) := HOc.out.bel.trans (HBq.out.mono HOc.out.bel.size)
      obtain ⟨k1, _, k3, _⟩ := HBX.out wd HBd.out
      obtain ⟨c1, c2⟩ := HWas.out wd HBq.out j hjn
      have hjF : j < F.disk.length := by rw [HND.out]; exact hjn
      have hOs : (F.disk.getD j ByteArray.empty).size = 256 := by rw [getD_lt _ _ hjF]; exact HWh.out _ (List.getElem_mem hjF)
      have eY : (F.disk.set j (layB X (F.disk.getD j ByteArray.empty) mm)).getD j ByteArray.empty = layB X (F.disk.getD j ByteArray.empty) mm := by simp [List.getD, hjF]
      rw [eY] at c2
      clear eY hjF
      have hjz : (j : Int) < (nd : Int) := by omega
      have hj0 : (0 : Int) ≤ (j : Int) := by omega
      generalize F.disk.getD j ByteArray.empty = O at *
      have HOs := Lib.hid hOs; clear hOs
      clear HOc HBq HWas HND
      by_cases hwh : A.keep[0]? = some true
      · have hmw : mm = 256 := by rw [← HMM.out]; unfold left; rw [if_pos hwh]
        rw [hmw, layB_all X O HXs.out HOs.out] at c2
        have hkl : 0 < A.keep.length := (List.getElem?_eq_some_iff.1 hwh).1
        obtain ⟨g, off, ek, hg, hck⟩ : ∃ g off, A.kao = some ⟨g, off, none⟩ ∧ g < wb.heap.size ∧ wb.cell? ⟨g, off, none⟩ = some (.bool true) := by
          rcases HOA.out.keeps with h | ⟨g, off, e, hg, hc⟩
          · rw [h] at hkl; simp at hkl
          · have := hc 0 hkl
            rw [(List.getElem?_eq_some_iff.1 hwh).2] at this
            exact ⟨g, off, e, hg, this⟩
        have ck0 := (HBd.out.cell (p := ⟨g, off, none⟩) hg).trans hck
        rw [ek] at k3
        have HEK := Lib.hid ek
        clear hmw hwh hg hck ek HMM hm256
        generalize A.keep.length = kl at *
        go_wp2_with fail
        go_region_held3 (fun W => Below wd.heap.size wd W ∧ W.cell? ⟨g2, j, none⟩ = some (.string X))
          (first | exact ⟨(Below.refl _ _).drew, c2⟩ | exact held_one (by assumption) (by assumption))
          (first | (go_at_call 28; refine (HFX.out _).mono ?_; rintro e w' ⟨rfl, hbx⟩))
        rename_i hHeld
        have HF := Lib.hid (HFin.out _ (HBd.out.trans (hHeld.1.mono HBd.out.size)))
        clear hHeld hbx
        go_wp2
        go_ret
        exact ⟨rfl, HF.out⟩
      · have hnw : (A.keep.length = 0) ∨ (0 < A.keep.length ∧ ∃ g off, A.kao = some ⟨g, off, none⟩ ∧ g < wb.heap.size ∧ wb.cell? ⟨g, off, none⟩ = some (.bool false)) := by
          by_cases hl : A.keep.length = 0
          · exact .inl hl
          · right
            have hkl : 0 < A.keep.length := by omega
            refine ⟨hkl, ?_⟩
            rcases HOA.out.keeps with h | ⟨g, off, e, hg, hc⟩
            · rw [h] at hkl; simp at hkl
            · have := hc 0 hkl
              have hf : A.keep[0] = false := by
                have e0 : A.keep[0]? = some A.keep[0] := List.getElem?_eq_getElem hkl
                cases hb : A.keep[0]
                · rfl
                · rw [e0, hb] at hwh; exact absurd rfl hwh
              rw [hf] at this
              exact ⟨g, off, e, hg, this⟩
        have hm0 : A.at_ = 0 ∨ mm = 0 := by
          by_cases h : A.at_ = 0
          · exact .inl h
          · right; rw [← HMM.out]; unfold left; rw [if_neg hwh, if_neg (by simp; omega)]
        have HM0 := Lib.hid hm0
        obtain ⟨Y, hY⟩ : ∃ Y, layB X O mm = Y := ⟨_, rfl⟩
        have HYs : Hid (Y.size = 256) := by show Y.size = 256; rw [← hY]; exact layB_size X O mm HXs.out HOs.out hm256
        have HYb : Hid (∀ c, c < 256 → ∀ (h1 : c < Y.size) (h2 : c < O.size), ((Y[c].toNat : Int) != 120) = false ∨ (((Y[c].toNat : Int) != 120) = true ∧ ((Y[c].toNat : Int) != (O[c].toNat : Int)) = false)) := by
          intro c hc h1 h2
          subst hY
          rw [layB_byte X O mm c HXs.out HOs.out hm256 hc h1]
          by_cases hcm : c < mm
          · left; rw [if_pos hcm, HXb.out c (by rw [HXs.out]; exact hc)]; rfl
          · rw [if_neg hcm]
            by_cases e : ((O[c].toNat : Int) != 120) = false
            · exact .inl e
            · exact .inr ⟨by simpa using e, by simp⟩
        have HYO : Hid (mm = 0 → Y = O) := by intro h; rw [← hY, h]; exact layB_none X O
        rw [hY] at c2
        clear hY hwh HMM hm0 hm256 HXb HFX
        have hY1 : Y.size ≤ 256 := by rw [HYs.out]; exact Nat.le_refl _
        have hY2 : 256 ≤ Y.size := by rw [HYs.out]; exact Nat.le_refl _
        have hO1 : O.size ≤ 256 := by rw [HOs.out]; exact Nat.le_refl _
        have hO2 : 256 ≤ O.size := by rw [HOs.out]; exact Nat.le_refl _
        have hck : (A.keep.length = 0) ∨ (0 < A.keep.length ∧ ∃ g off, A.kao = some ⟨g, off, none⟩ ∧ wd.cell? ⟨g, off, none⟩ = some (.bool false)) := by
          rcases hnw with h | ⟨h, g, off, e, hg, hc⟩
          · exact .inl h
          · exact .inr ⟨h, g, off, e, (HBd.out.cell (p := ⟨g, off, none⟩) hg).trans hc⟩
        clear hnw
        generalize A.keep.length = kl at *
        generalize A.kao = kao at *
        have hkl2 : kl ≤ 0 ∨ (0 < kl ∧ ∃ g off, kao = some ⟨g, off, none⟩ ∧ wd.cell? ⟨g, off, none⟩ = some (.bool false)) := by
          rcases hck with h | h
          · exact .inl (by omega)
          · exact .inr h
        clear hck
        rcases hkl2 with hkl | ⟨hkl, g, off, rfl, ck0⟩
        all_goals
          go_wp2_with fail
          go_loopw [20] (fun i wr => ∃ c q : Nat, c ≤ 256 ∧ i = .int .i64 c ∧ wr = wd.drewN q) (fun i _ => 256 - (intOf i).toNat)
          case atStart => exact ⟨0, 0, Nat.zero_le _, rfl, rfl⟩
          case round =>
            obtain ⟨c, q2, hcl, rfl, rfl⟩ := hrel
            by_cases hlt : c < 256
            · have hcY : c < Y.size := by omega
              have hcO : c < O.size := by omega
              have hcz : (c : Int) < 256 := by omega
              have hcY' : (c : Int) < (Y.size : Int) := by omega
              have hcO' : (c : Int) < (O.size : Int) := by omega
              have hc0 : (0 : Int) ≤ (c : Int) := by omega
              rcases HYb.out c hlt hcY hcO with hb1 | ⟨hb1, hb2⟩
              · go_wp2
                go_quiet (fail)
                go_wp2
                go_roundw
                case rel => exact ⟨c + 1, _, by omega, by go_num, rfl⟩
                case measure => simp [intOf]; omega
              · go_wp2
                go_quiet (fail)
                go_wp2
                go_roundw
                case rel => exact ⟨c + 1, _, by omega, by go_num, rfl⟩
                case measure => simp [intOf]; omega
            · have hcz : (256 : Int) ≤ (c : Int) := by omega
              have HF : Hid (∀ q3, Below w.heap.size w (wd.drewN q3)) := fun q3 => below_drewN (HFin.out _ HBd.out) q3
              rcases HM0.out with ha | ha
              · have ha' : (A.at_ == 0) = true := by simpa using ha
                clear ha
                go_wp2
                go_quiet (fail)
                go_wp2
                go_ret
                exact ⟨rfl, below_drewN (HF.out _) _⟩
              · have hyo := HYO.out ha
                subst hyo
                by_cases ha2 : (A.at_ == 0) = true
                · go_wp2
                  go_quiet (fail)
                  go_wp2
                  go_ret
                  exact ⟨rfl, below_drewN (HF.out _) _⟩
                · have ha' : (A.at_ == 0) = false := by simpa using ha2
                  clear ha2
                  go_wp2
                  go_quiet (fail)
                  go_wp2
                  go_ret
                  exact ⟨by simp, below_drewN (HF.out _) _⟩

theorem others_any (n : Int) (v : Value) (A : ActS) (at_ : Int) (L : List ActS) (w : World) (hn : -9223372036854775808 ≤ n ∧ n ≤ 9223372036854775807) (hat : -9223372036854775808 ≤ at_ ∧ at_ ≤ 9223372036854775807) (h : Acts w v L) (hA : A.Ok w) :
    Calls Try.prog 5 #[.int .i64 n, v, .agg #[.int .i64 A.op, .int .i64 A.at_, .int .i64 A.n, .slice A.kao A.keep.length A.kcap, .string A.data], .int .i64 at_] w fun e w' => e = .returned (.bool true) ∧ Below w.heap.size w w' := by
  cases hx : okAll L A
  · exact others_early n v A at_ L w h hA hx
  · unfold okAll at hx
    simp only [Bool.and_eq_true, decide_eq_true_eq] at hx
    exact others_main n v A at_ L w hn hat h hA hx.1.1 hx.1.2 hx.2

end Go.Proofs.Ytlikbfdfaccekaa
