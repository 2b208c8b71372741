/- JournalRooms: the walk. -/
import Derived.Test.YtodfcbpimglhdaaZLRooms

namespace Go.Proofs.Ytodfcbpimglhdaa
open Go.RowKit
open Fr (SlW OwnW)

theorem begin_run : ∃ DB, (∀ w, Calls Try.prog 26 #[] w fun e w' => ∃ wb a p S, e = .returned (.tuple #[.pointer (some ⟨wb, 0, none⟩), .bool true]) ∧ Wd w w' wb a p S Jb DB) ∧ Run 2 0 Jb DB (fun _ => noughts) := by
  obtain ⟨_, hsy, hpn, hfu⟩ := begin_sync 70 (by omega) (by omega)
  exact ⟨Db 70, begin_any, ⟨⟨_, hsy⟩, hfu, by rw [hpn]; simp⟩⟩

theorem Run.ckp {N m : Nat} {J : JS} {D : DevS} {H : Nat → ByteArray} (h : Run N m J D H) (hN : N + 1 < 1000000) : (J.ckp D).1 = 0 ∧ (J.ckp D).2.2.full = 0 := by
  obtain ⟨⟨F, h1⟩, h2, h3⟩ := h
  rcases ckp_safe h1.pre hN with ⟨a, _, b, _⟩ | ⟨_, b, _⟩
  · exact ⟨a, by rw [b]; rfl⟩
  · have := (nf_ckp J h2).2
    rw [b, h1.pre.live] at this
    cases this
set_option maxRecDepth 100000 in
set_option maxHeartbeats 2000000 in
theorem rooms_walk (v : Value) (L : List Act4) (w : World) (hL : Acts4 w v L) :
    Calls Try.prog 6 #[v] w fun e w' => e = .returned (.bool true) ∧ Below w.heap.size w w' := by
  have CS := Lib.hid (shown_any w)
  have CM : Hid (∀ W, Below w.heap.size w W → Calls Try.prog 25 #[v] W fun e w' => e = .returned (.bool (small4 L)) ∧ W = w') := fun W hW => small4_any hL hW
  obtain ⟨DB, hbeg, hrun⟩ := begin_run
  have CB := Lib.hid hbeg; have HR := Lib.hid hrun
  clear hbeg hrun
  have HA := Lib.hid hL
  obtain ⟨ao, cap, hv⟩ : ∃ ao cap, v = .slice ao L.length cap := by obtain ⟨_, _, ao, cap, hv, _⟩ := hL; exact ⟨ao, cap, hv⟩
  clear hL
  by_cases hsm : small4 L = true
  · have hsm' := hsm
    unfold small4 at hsm'
    simp only [decide_eq_true_eq] at hsm'
    obtain ⟨hl30, hfit⟩ := hsm'
    rw [hsm] at CM
    have HF := Lib.hid hfit
    clear hsm hfit
    obtain ⟨n, hn⟩ : ∃ n, L.length = n := ⟨_, rfl⟩
    have HN := Lib.hid hn
    rw [hn] at hl30 hv
    clear hn
    subst hv
    go_enter Try.func6, Try.ntmps6
    go_wp2_with fail
    refine CS.out.mono ?_
    rintro e w1 ⟨rfl, hb1⟩
    have CM1 := Lib.hid (CM.out _ hb1)
    have HB1 := Lib.hid hb1
    clear hb1 CM CS
    go_wp2_with fail
    refine CM1.out.mono ?_
    rintro e w1' ⟨rfl, rfl⟩
    clear CM1
    go_wp2_with fail
    refine (CB.out _).mono ?_
    rintro e w2 ⟨wb, a, p, S2, rfl, hw2⟩
    have HW2 := Lib.hid hw2; clear hw2 CB
    go_wp2_with fail
    go_loopw [7] (fun i wr => ∃ k : Nat, k ≤ n ∧ i = .int .i64 (k : Int) ∧ Hid (∃ S J D H, Wd w1 wr wb a p S J D ∧ Run (2 + 2 * k) (108 * k) J D H)) (fun i _ => n - (intOf i).toNat)
    case atStart => exact ⟨0, Nat.zero_le _, rfl, ⟨_, _, _, _, HW2.out, HR.out⟩⟩
    case round =>
      obtain ⟨k, hk, rfl, HS⟩ := hrel
      by_cases hlt : k < n
      · obtain ⟨S, J, D, H, hwd, hrn⟩ := HS.out
        have HW := Lib.hid hwd; have HRn := Lib.hid hrn
        clear hwd hrn HS
        have hkL : k < L.length := by rw [HN.out]; exact hlt
        obtain ⟨g, off, cap', hv, c0, c1, c2, c3, c4, c5⟩ := HA.out.cell (HB1.out.trans (HW.out.bel.mono HB1.out.size)) k hkL
        obtain ⟨rfl, hnl, rfl⟩ : ao = some ⟨g, off, none⟩ ∧ n = L.length ∧ cap = cap' := by simpa using hv
        clear hnl
        have HAk := Lib.hid (HA.out.1 L[k] (List.getElem_mem hkL))
        have HFk := Lib.hid (HF.out L[k] (List.getElem_mem hkL))
        clear hv
        generalize L[k] = A at *
        have d1 := HW.out.c1
        have CQ := Lib.hid (seq_any HW.out.jr)
        have CU := Lib.hid (used_any HW.out.jr)
        have CW : Hid (Calls Try.prog 29 #[.agg #[.int .i64 A.op, .int .i64 A.n, .int .i64 A.at_, .slice A.kao A.keep.length A.kcap, .slice A.bao A.blks.length A.bcap, .string A.data]] wr fun e w' => ∃ u, e = .returned u ∧ OwnW wr.heap.size w' u A.wrs ∧ Below wr.heap.size wr w') :=
          writes_any A wr HFk.out.1 HFk.out.2.2 HAk.out.bin (HAk.out.blks.below (HB1.out.trans (HW.out.bel.mono HB1.out.size)))
        have CC : Hid (∀ u W, Below wr.heap.size wr W → OwnW wr.heap.size W u A.wrs → Calls Try.prog 30 #[.pointer (some ⟨a, 0, none⟩), u] W fun e w' => e = .returned (.int .i64 (J.commit D A.wrs).1) ∧ ∃ S', Wd w1 w' wb a p S' (J.commit D A.wrs).2.2 (J.commit D A.wrs).2.1) := fun u W hW hO =>
          HW.out.commitO hW hO (Below.refl _ _) HRn.out.ok (by have := HRn.out.pend; omega) (by have := A.wrs_len; omega) A.wrs_size
        have hst := HRn.out.step (L := A.wrs) (by omega) A.wrs_len
        have HNx : Hid (J.next < 1000000) := by
          obtain ⟨F, hF⟩ := HRn.out.sync
          have := hF.pre.good.bnd.2; have := hF.pre.good.big
          show J.next < _; omega
        have hwl := A.wrs_len
        obtain ⟨M, hM⟩ : ∃ M, A.wrs = M := ⟨_, rfl⟩
        rw [hM] at CW CC hst hwl
        clear hM HAk HFk HW2 HR
        have HKw : Hid (∀ W, Below wr.heap.size wr W → W.cell? ⟨wb, 1, none⟩ = some (.pointer (some ⟨a, 0, none⟩))) := fun W hW => (HW.out.below hW).c1
        generalize hR : J.commit D M = R at *
        obtain ⟨e1, D1, J1⟩ := R
        simp only at hst CC
        have HRn' := HRn
        have hJf : J.full ≤ 50 := by
          obtain ⟨F, hF⟩ := HRn.out.sync
          have := hF.pre.good.room; have := hF.pre.good.lg
          omega
        have hnx := HNx.out
        clear HNx hR
        generalize hq : J.next = q at *
        generalize hf : J.full = f at *
        have HST := Lib.hid hst
        clear hst
        go_wp2_with fail
        refine CQ.out.mono ?_
        rintro e w3 ⟨rfl, rfl⟩
        go_wp2_with fail
        refine CU.out.mono ?_
        rintro e w4 ⟨rfl, rfl⟩
        clear CQ CU
        go_wp2_with fail
        refine CW.out.mono ?_
        rintro e w5 ⟨u, rfl, ho5, hb5⟩
        have CC5 := Lib.hid (CC.out u w5 hb5 ho5)
        have d5 := HKw.out _ hb5
        obtain ⟨ao5, c5', hv5, _⟩ := ho5.sl
        subst hv5
        clear CW CC c0 c1 c2 c3 c4 c5 d1 ho5 hb5
        go_wp2_with fail
        refine CC5.out.mono ?_
        rintro e w6 ⟨rfl, S6, hw6⟩
        have d6 := hw6.c1
        have CQ6 := Lib.hid (seq_any hw6.jr)
        have CU6 := Lib.hid (used_any hw6.jr)
        have HW6 := Lib.hid hw6
        clear hw6 CC5 d5
        rcases HST.out with ⟨s1, s2, s3, s4⟩ | ⟨s1, s2, s3, s4, s5, s6⟩
        · subst s2 s3
          rw [hq] at CQ6
          rw [hf] at CU6
          go_wp2_with fail
          refine CQ6.out.mono ?_
          rintro e w7 ⟨rfl, rfl⟩
          go_wp2_with fail
          refine CU6.out.mono ?_
          rintro e w8 ⟨rfl, rfl⟩
          clear CQ6 CU6
          go_wp2
          go_roundw
          case rel =>
            obtain ⟨⟨F, t1⟩, t2, t3⟩ := HRn'.out
            refine ⟨k + 1, by omega, by go_num, ⟨_, _, _, _, HW6.out, ⟨⟨F, t1.more (by omega) (by omega)⟩, t2, by omega⟩⟩⟩
          case measure => simp [intOf]; omega
        · rw [s2] at CQ6
          subst s1
          have HR6 : Hid (Run (2 + 2 * (k + 1)) (108 * (k + 1)) J1 D1 (put H M)) := by
            show Run _ _ _ _ _
            rw [show 2 + 2 * (k + 1) = 2 + 2 * k + 2 by omega, show 108 * (k + 1) = 108 * k + 108 by omega]; exact s5
          generalize J1.full = f1 at *
          clear s5
          go_wp2_with fail
          refine CQ6.out.mono ?_
          rintro e w7 ⟨rfl, rfl⟩
          by_cases hff : f1 = f + (1 + M.length)
          · have hc1 : (f1 : Int) = (f : Int) + (1 + (M.length : Int)) := by omega
            go_wp2_with fail
            refine CU6.out.mono ?_
            rintro e w8 ⟨rfl, rfl⟩
            go_wp2_with fail
            refine CU6.out.mono ?_
            rintro e w9 ⟨rfl, rfl⟩
            go_wp2
            go_roundw
            case rel => exact ⟨k + 1, by omega, by go_num, ⟨_, _, _, _, HW6.out, HR6.out⟩⟩
            case measure => simp [intOf]; omega
          · have hc1 : ¬ (f1 : Int) = (f : Int) + (1 + (M.length : Int)) := by omega
            have hc2 : (f1 : Int) = 1 + (M.length : Int) := by omega
            go_wp2_with fail
            refine CU6.out.mono ?_
            rintro e w8 ⟨rfl, rfl⟩
            go_wp2_with fail
            refine CU6.out.mono ?_
            rintro e w9 ⟨rfl, rfl⟩
            go_wp2_with fail
            refine CU6.out.mono ?_
            rintro e w10 ⟨rfl, rfl⟩
            go_wp2
            go_roundw
            case rel => exact ⟨k + 1, by omega, by go_num, ⟨_, _, _, _, HW6.out, HR6.out⟩⟩
            case measure => simp [intOf]; omega
      · obtain ⟨S, J, D, H, hwd, hrn⟩ := HS.out
        have d1 := hwd.c1
        obtain ⟨k1, k2⟩ := hrn.ckp (by omega)
        have CK : Hid (Calls Try.prog 35 #[.pointer (some ⟨a, 0, none⟩)] wr fun e w' => e = .returned (.int .i64 0) ∧ ∃ S' J' D', Wd w1 w' wb a p S' J' D' ∧ J'.full = 0) := by
          refine (ckp_any hwd.jr hwd.dev hwd.na hrn.ok (by have := hrn.pend; omega)).mono fun e w' ⟨he, hj⟩ => ?_
          rw [k1] at he
          obtain ⟨S', h'⟩ := hwd.jleaves hj
          exact ⟨he, S', _, _, h', k2⟩
        clear hwd hrn HS HW2 HR k1 k2
        go_wp2_with fail
        refine CK.out.mono ?_
        rintro e w3 ⟨rfl, S3, J3, D3, hw3, hf3⟩
        have d3 := hw3.c1
        have CU := Lib.hid (used_any hw3.jr)
        rw [hf3] at CU
        have HB3 := Lib.hid (HB1.out.trans (hw3.bel.mono HB1.out.size))
        clear hw3 hf3 CK
        go_wp2_with fail
        refine CU.out.mono ?_
        rintro e w4 ⟨rfl, rfl⟩
        go_wp2
        go_ret
        exact ⟨rfl, HB3.out⟩
  · have hsm' : small4 L = false := by simpa using hsm
    rw [hsm'] at CM
    clear hsm
    obtain ⟨n, hn⟩ : ∃ n, L.length = n := ⟨_, rfl⟩
    have HN := Lib.hid hn
    rw [hn] at hv
    subst hv
    clear HA HR hn
    go_enter Try.func6, Try.ntmps6
    go_wp2_with fail
    refine CS.out.mono ?_
    rintro e w1 ⟨rfl, hb1⟩
    have CM1 := Lib.hid (CM.out _ hb1)
    have HB1 := Lib.hid hb1
    clear hb1 CM CS
    go_wp2_with fail
    refine CM1.out.mono ?_
    rintro e w1' ⟨rfl, rfl⟩
    clear CM1
    go_wp2
    go_ret
    exact ⟨rfl, HB1.out⟩
end Go.Proofs.Ytodfcbpimglhdaa
