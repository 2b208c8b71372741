/- BlockPlays answers true for every number and every list of acts, and changes nothing that was there: the walk. -/
import Derived.Test.YtlikbfdfaccekaaPlays1
namespace Go.Proofs.Ytlikbfdfaccekaa
open Go.RowKit

theorem DevS.does_disk (D : DevS) (a : ActS) : (D.does a).2.disk.length = D.disk.length := by
  unfold DevS.does
  split
  · rfl
  · split
    · unfold DevS.fl; split
      · rfl
      · split
        · rw [DevS.tk_disk]
        · simp [laidTo_length]
    · split
      · rfl
      · split
        · simp [DevS.crash, laidTo_length]
        · unfold DevS.wr; split
          · rfl
          · split
            · rfl
            · split <;> simp [DevS.tk_disk]
theorem DevS.runs_disk (D : DevS) (L : List ActS) : (D.runs L).disk.length = D.disk.length := by
  induction L generalizing D with
  | nil => rfl
  | cons a L ih =>
    have e : D.runs (a :: L) = (D.does a).2.runs L := rfl
    rw [e, ih, DevS.does_disk]
theorem madeD_disk (n : Int) (L : List ActS) : ((madeD n L).disk.length : Int) = 1 + pickI n 12 := by
  have := pickI_lt n 12 (by omega)
  unfold madeD; rw [DevS.runs_disk]; simp [DevS.made]; omega

set_option maxRecDepth 100000 in
set_option maxHeartbeats 4000000 in
theorem plays_any (n : Int) (v : Value) (L : List ActS) (w : World) (hn : -9223372036854775808 ≤ n ∧ n ≤ 9223372036854775807) (h : Acts w v L) :
    Calls Try.prog 3 #[.int .i64 n, v] w fun e w' => e = .returned (.bool true) ∧ Below w.heap.size w w' := by
  obtain ⟨ao, cap, hv⟩ : ∃ ao cap, v = .slice ao L.length cap := by obtain ⟨_, _, ao, cap, hv, _⟩ := h; exact ⟨ao, cap, hv⟩
  have HA := Lib.hid h; clear h
  obtain ⟨m, hm⟩ : ∃ m, L.length = m := ⟨_, rfl⟩
  have HL := Lib.hid hm
  rw [hm] at hv
  clear hm
  subst hv
  by_cases hsm : smallB L = true
  · have HSM := Lib.hid hsm; clear hsm
    obtain ⟨x, hx1, hx2⟩ := new_both n w
    have HP : Hid (∀ W, Calls Try.prog 13 #[.int .i64 n, .int .i64 12] W fun e w' => e = .returned (.int .i64 (pickI n 12)) ∧ W = w') := fun W => pick_any n 12 W hn (by omega)
    have hp := pickI_lt n 12 (by omega)
    have HM0 : Hid (DevS.made (1 + pickI n 12).toNat = madeD n []) := rfl
    have HN1 : Hid (∀ W, Below w.heap.size w W → Calls Try.prog 11 #[.int .i64 (1 + pickI n 12)] W fun e w' => ∃ p, e = .returned (.tuple #[.pointer (some ⟨p, 0, none⟩), .int .i64 0]) ∧ At w w' p (madeD n [])) := by
      intro W hW; have := At.new (w0 := w) (w := W) (1 + pickI n 12) (by omega) hW; rw [HM0.out] at this; exact this
    have HN2 : Hid (∀ W, Calls Try.prog 12 #[.int .i64 (1 + pickI n 12)] W fun e w' => ∃ r, e = .returned (.tuple #[.pointer (some ⟨r, 0, none⟩), .bool true]) ∧ ∃ S : Nat → Prop, (∀ k, S k → W.heap.size ≤ k) ∧ RStands S w' r (madeD n []) ∧ Below W.heap.size W w') := by
      intro W
      obtain ⟨q, hq⟩ := Int.eq_ofNat_of_zero_le (show 0 ≤ 1 + pickI n 12 by omega)
      have := rnew_yes q W (by omega) (by omega)
      rw [← hq] at this
      have e : DevS.made q = madeD n [] := by rw [← HM0.out, hq]; rfl
      rw [e] at this; exact this
    have HDk : Hid (((madeD n L).disk.length : Int) = 1 + pickI n 12) := madeD_disk n L
    have HTk : Hid (∀ k (h : k < L.length), madeD n (L.take (k + 1)) = ((madeD n (L.take k)).does L[k]).2) := by
      intro k h; rw [take_snoc' L k h]; exact DevS.runs_snoc _ _ _
    have HLk : Hid (∀ k, (madeD n (L.take k)).pend.length ≤ 1000000) := by
      intro k; have := madeD_len n (L.take k); have := small_len HSM.out; have h2 : (L.take k).length ≤ L.length := by { rw [List.length_take]; exact Nat.min_le_right _ _ }
      omega
    have hm60 : m ≤ 60 := by have := small_len HSM.out; rw [HL.out] at this; exact this
    clear HM0
    generalize pickI n 12 = pn at *
    cases x
    all_goals
     simp only [Bool.false_eq_true, if_false, if_true] at hx1 hx2
     have HX1 := Lib.hid hx1; have HX2 := Lib.hid hx2; clear hx1 hx2
     go_enter Try.func3, Try.ntmps3
     go_wp2_with fail
     refine (shown_any _).mono ?_
     rintro e w1 ⟨rfl, hb1⟩
     have HB1 := Lib.hid hb1; clear hb1
     have c := small_any HA.out HB1.out; rw [HSM.out] at c
     have C := Lib.hid c; clear c
     go_wp2_with fail
     refine C.out.mono ?_
     rintro e w1' ⟨rfl, rfl⟩
     clear C
     go_wp2_with fail
     refine (HX1.out _ HB1.out).mono ?_
     rintro e w2 ⟨xa, rfl, hb2⟩
     have HB2 : Hid (Below w.heap.size w w2) := HB1.out.trans (hb2.mono HB1.out.size)
     clear hb2
     go_wp2_with fail
     refine (HX2.out _).mono ?_
     rintro e w3 ⟨xb, rfl, hb3⟩
     have HB3 : Hid (Below w.heap.size w w3) := HB2.out.trans (hb3.mono HB2.out.size)
     clear hb3 HX1 HX2 HB1 HB2
     go_wp2_with fail
     refine (HP.out _).mono ?_
     rintro e w3' ⟨rfl, rfl⟩
     go_wp2_with fail
     refine (HN1.out _ HB3.out).mono ?_
     rintro e w4 ⟨p, rfl, h4⟩
     have H4 := Lib.hid h4; clear h4
     go_wp2_with fail
     refine (HN2.out _).mono ?_
     rintro e w5 ⟨r, rfl, h5⟩
     have H5 : Hid (Both w w5 p (madeD n []) r (madeD n [])) := by
       obtain ⟨S, g1, g2, g3⟩ := h5
       exact .new H4.out g3 ⟨S, g1, g2⟩
     clear h5 H4 HB3 HP HN1 HN2
     go_wp2_with fail
     go_loopw [16] (fun i wr => ∃ k : Nat, k ≤ m ∧ i = .int .i64 k ∧ Hid (Both w wr p (madeD n (L.take k)) r (madeD n (L.take k)))) (fun i _ => m - (intOf i).toNat)
     case atStart => exact ⟨0, Nat.zero_le _, rfl, H5⟩
     case round =>
      obtain ⟨k, hk, rfl, HK⟩ := hrel
      by_cases hlt : k < m
      · have hkL : k < L.length := by rw [HL.out]; exact hlt
        obtain ⟨g, off, cap', hv, c0, c1, c2, c3, c4⟩ := HA.out.cell HK.out.bel k hkL
        obtain ⟨rfl, hml, rfl⟩ : ao = some ⟨g, off, none⟩ ∧ m = L.length ∧ cap = cap' := by simpa using hv
        clear hml
        have hsa := Lib.hid (small_act HSM.out L[k] (List.getElem_mem hkL))
        have hao := Lib.hid (HA.out.1 _ (List.getElem_mem hkL))
        have CD := Lib.hid (HK.out.does L[k] (HLk.out k) hsa.out.1 hsa.out.2 hao.out)
        have HT := Lib.hid (HTk.out k hkL)
        have HLl := Lib.hid (HLk.out k)
        have CA : Hid (∀ W, Below w.heap.size w W → _) := fun W hW => HA.out.cell hW k hkL
        clear hv
        generalize L[k] = a at *
        generalize madeD n (L.take k) = D at *
        go_wp2_with fail
        refine CD.out.mono ?_
        rintro e w6 ⟨rfl, h6⟩
        have H6 := Lib.hid h6; clear h6
        have CM := Lib.hid (H6.out.model a HLl.out hsa.out.1 hsa.out.2 hao.out)
        obtain ⟨g', off', cap'', hv, c0, c1, c2, c3, c4⟩ := CA.out _ H6.out.bel
        obtain ⟨hg, hml, hc⟩ : some (⟨g, off, none⟩ : Addr) = some ⟨g', off', none⟩ ∧ m = L.length ∧ cap = cap'' := by simpa using hv
        simp at hg
        obtain ⟨rfl, rfl⟩ := hg
        subst hc
        clear hv hml CD
        go_wp2_with fail
        refine CM.out.mono ?_
        rintro e w7 ⟨rfl, h7⟩
        have H7 := Lib.hid h7; have c7 := h7.gone; clear h7
        generalize (D.does a).1.1 = X at *
        generalize (D.does a).1.2 = Y at *
        generalize (D.does a).2 = E at *
        have HQ : Hid (∀ q, Calls Try.prog 16 #[.pointer (some ⟨p, 0, none⟩)] (w7.drewN q) fun e w' => e = .returned (.bool E.dead) ∧ w' = w7.drewN q) := fun q => (H7.out.below (below_drewN (Below.refl _ _) q)).dead.mono fun _ _ ⟨h1, h2⟩ => ⟨h1, h2.symm⟩
        generalize E.dead = dd at *
        go_wp2_with fail
        go_quiet ((go_at_call 16; exact Calls.quiet_of_same (HQ.out _)))
        go_wp2
        go_roundw
        case rel => exact ⟨k + 1, by omega, by go_num, by show Both _ _ _ _ _ _; rw [HT.out]; exact H7.out.below (below_drewN (Below.refl _ _) _)⟩
        case measure => simp [intOf]; omega
      · have hkm : k = m := by omega
        have HF : Hid (Both w wr p (madeD n L) r (madeD n L)) := by
          have := HK.out
          rw [hkm, ← HL.out, List.take_length] at this; exact this
        have HLn : Hid ((madeD n L).pend.length ≤ 1000000) := by
          have := HLk.out k
          rw [hkm, ← HL.out, List.take_length] at this; exact this
        subst hkm
        clear hlt HK HLk HTk H5
        generalize madeD n L = D at *
        obtain ⟨v1, v2, c1, c2, hs1, hs2⟩ := HF.out.rows HLn.out
        have h0 : wr.cell? ⟨r, 0, none⟩ = some v1 ∧ wr.cell? ⟨r, 1, none⟩ = some v2 ∧ RowsB w wr p r D v1 v2 := ⟨c1, c2, HF.out, hs1, hs2⟩
        have H0 := Lib.hid h0
        clear c1 c2 hs1 hs2 h0
        go_wp2_with fail
        go_region_held3 (fun W => W.cell? ⟨r, 0, none⟩ = some v1 ∧ W.cell? ⟨r, 1, none⟩ = some v2 ∧ RowsB w W p r D v1 v2)
          (first | exact heldB_next H0.out (Below.refl _ _).drew | exact heldB_next (by assumption) (by assumption))
          (first
            | (go_at_call 18; refine ((show RowsB w _ p r D v1 v2 from And.right (And.right (by assumption))).1.disk).mono ?_; rintro e w8 ⟨vd, rfl, hsd, hb8⟩; have HSD := Lib.hid hsd; clear hsd)
            | (go_at_call 17; refine (same_any _ _ D.disk _ HSD.out (show RowsB w _ p r D v1 v2 from And.right (And.right (by assumption))).2.1).mono ?_; rintro e w9 ⟨rfl, hb9⟩))
        rename_i hHeld
        have H1 := Lib.hid hHeld
        clear hHeld hb8 hb9 HSD H0
        go_wp2_with fail
        go_region_held3 (fun W => W.cell? ⟨r, 0, none⟩ = some v1 ∧ W.cell? ⟨r, 1, none⟩ = some v2 ∧ RowsB w W p r D v1 v2)
          (first | exact heldB_next H1.out (Below.refl _ _).drew | exact heldB_next (by assumption) (by assumption))
          (first
            | (go_at_call 20; refine ((show RowsB w _ p r D v1 v2 from And.right (And.right (by assumption))).1.pending HLn.out).mono ?_; rintro e w10 ⟨vp, rfl, hsp, hb10⟩; have HSP := Lib.hid hsp; clear hsp)
            | (go_at_call 19; refine (sameW_any _ _ D.pend _ HSP.out (show RowsB w _ p r D v1 v2 from And.right (And.right (by assumption))).2.2).mono ?_; rintro e w11 ⟨rfl, hb11⟩))
        rename_i hHeld2
        have H2 := Lib.hid hHeld2
        have CB := Lib.hid H2.out.2.2.1.blocks
        rw [HDk.out] at CB
        clear hHeld2 hb10 hb11 HSP H1
        go_wp2_with fail
        refine CB.out.mono ?_
        rintro e w12 ⟨rfl, rfl⟩
        go_wp2
        go_ret
        exact ⟨rfl, H2.out.2.2.1.bel⟩
  · go_enter Try.func3, Try.ntmps3
    go_wp2_with fail
    refine (shown_any _).mono ?_
    rintro e w1 ⟨rfl, hb1⟩
    have HB1 := Lib.hid hb1; clear hb1
    have c := small_any HA.out HB1.out; rw [show smallB L = false by simpa using hsm] at c
    have C := Lib.hid c; clear c
    go_wp2_with fail
    refine C.out.mono ?_
    rintro e w1' ⟨rfl, rfl⟩
    go_wp2
    go_ret
    exact ⟨rfl, HB1.out⟩
end Go.Proofs.Ytlikbfdfaccekaa
