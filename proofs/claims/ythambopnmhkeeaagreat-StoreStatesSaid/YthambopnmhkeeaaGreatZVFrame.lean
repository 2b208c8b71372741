/- The document's own journal: what frame answers: the same. -/
import Derived.Test.YthambopnmhkeeaaGreatZJSafe4
import Derived.Test.YthambopnmhkeeaaGreatZVCkp
import Derived.Test.YthambopnmhkeeaaGreatZFUnpR
import Derived.Test.YthambopnmhkeeaaGreatZRef1
import Derived.Test.YthambopnmhkeeaaGreatZJSlot

namespace Go.Proofs.YthambopnmhkeeaaGreat
open Go.RowKit
open Fr (SlS SlW OwnS OwnW one_cell one_one unp runpack_any)

def VFrame (w : World) (x : Option (List (Int × ByteArray))) (e : Ending) (w' : World) : Prop :=
  ∃ u, ∃ k : Int, ∃ b : Bool, e = .returned (.tuple #[u, .int .i64 k, .bool b]) /\ Below w.heap.size w w' /\ ((x = none /\ b = false) \/ ∃ ws, x = some ws /\ b = true /\ k = 1 + (ws.length : Int) /\ OwnW w.heap.size w' u ws)
theorem unp_few (L : List ByteArray) : (unp L).2.1.length <= 48 := by
  cases L with
  | nil => exact Nat.zero_le _
  | cons s T =>
    by_cases h : (unp (s :: T)).2.2 = 0
    . exact (unp_ok s T h).2.1
    . rw [Fr.unp_cons] at h ⊢
      split
      . rename_i h1
        rw [if_pos h1] at h
        split
        . rename_i h2; rw [if_pos h2] at h; exact absurd rfl h
        . exact Nat.zero_le _
      . exact Nat.zero_le _
theorem own_pushV {B : Nat} {w1 : World} {v1 : Value} {M : List ByteArray} {s : ByteArray} (hown : w1.ownsRow B 9 1 v1 (M.length + 1) (M.map Value.string ++ [.string s])) : OwnS B w1 v1 (M ++ [s]) := by
  unfold OwnS
  rw [List.length_append, List.map_append]
  exact hown
section
variable {S : Nat -> Prop} {w : World} {a r : Nat} {J : JS} {D : DevS}
set_option maxRecDepth 100000 in
set_option maxHeartbeats 400000 in
theorem vplace_at (i : Nat) (h : Jr 136 w a r J) {n : Nat} (ok : J.Ok n) (hn : n <= 4096) (hi : i <= 10000) :
    Calls Tryz.prog 181 #[.pointer (some ⟨a, 0, none⟩), .int .i64 (i : Int)] w fun e w' => e = .returned (.int .i64 ((2 + (J.p + i) % J.log : Nat) : Int)) /\ w' = w.drew := by
  have c3 := h.c3; have c4 := h.c4; clear h
  have h1 := ok.l1; have h2 := ok.l0; have h3 := ok.pl
  clear ok
  generalize J.log = l at *
  generalize J.p = q at *
  have w2 : ((q : Int) + (i : Int)).tmod (l : Int) = (((q + i) % l : Nat) : Int) := by rw [Int.tmod_eq_emod_of_nonneg (by omega)]; simp
  have w1 : IntKind.i64.wrap ((q : Int) + (i : Int)) = (q : Int) + (i : Int) := IntWalk.i64_in _ (by omega)
  have hm := Nat.mod_lt (q + i) (show 0 < l by omega)
  generalize (q + i) % l = rr at *
  have w3 : IntKind.i64.wrap (rr : Int) = (rr : Int) := IntWalk.i64_in _ (by omega)
  have w4 : IntKind.i64.wrap (2 + (rr : Int)) = 2 + (rr : Int) := IntWalk.i64_in _ (by omega)
  have hl0 : ((l : Int) == 0) = false := beq_eq_false_iff_ne.2 (by omega)
  have hl1 : ((l : Int) == -1) = false := beq_eq_false_iff_ne.2 (by omega)
  have e' : ((2 + rr : Nat) : Int) = 2 + (rr : Int) := by omega
  rw [e']
  clear e'
  go_enter Tryz.func181, Tryz.ntmps181
  go_wp2
  go_region
  go_wp2
  go_ret
  exact ⟨rfl, rfl⟩

set_option maxRecDepth 100000 in
set_option maxHeartbeats 400000 in
theorem vhome_at (h : Jr 136 w a r J) (hl : J.log <= 4096) : Calls Tryz.prog 145 #[.pointer (some ⟨a, 0, none⟩)] w fun e w' => e = .returned (.int .i64 J.home) /\ w = w' := by
  have c := h.c3; clear h
  have e0 : (J.home : Int) = 2 + (J.log : Int) := by unfold JS.home; omega
  rw [e0]; clear e0
  generalize J.log = l at *
  go_enter Tryz.func145, Tryz.ntmps145
  go_wp2
  go_ret
  exact ⟨rfl, rfl⟩

set_option maxRecDepth 100000 in
set_option maxHeartbeats 4000000 in
theorem vframe_any (hj : Jr 136 w a r J) (hd : RStands S w r D) (hde : D.dead = false) (ok : J.Ok D.disk.length) (hp : D.pend.length <= 900000) :
    Calls Tryz.prog 140 #[.pointer (some ⟨a, 0, none⟩)] w fun e w' => VFrame w (J.frameOf D) e w' := by
  obtain ⟨i0, hi, hz0, hz1, hz2⟩ := info_parts Tryz.infoS
  have HZ2 := Lib.hid hz2; clear hz2
  have hn := hd.ok.few
  have c3 := hj.c3; have c7 := hj.c7
  have hfu := ok.fu; have hl1 := ok.l1
  have hlf : J.left = J.log - J.full := rfl
  have HFS := Lib.hid (frame_same J D)
  have HJ := Lib.hid hj; have HD := Lib.hid hd; have HOK := Lib.hid ok
  have hal := hj.lt
  have CP : Hid (∀ W, Below w.heap.size w W -> ∀ i : Nat, i <= 49 -> Calls Tryz.prog 181 #[.pointer (some ⟨a, 0, none⟩), .int .i64 ((J.full : Int) + (i : Int))] W fun e w' => e = .returned (.int .i64 ((J.pos i : Nat) : Int)) /\ w' = W.drew) := fun W hW i hi => by
    have := vplace_at (J.full + i) (hj.below hW) ok hn (by omega)
    rw [show ((J.full + i : Nat) : Int) = (J.full : Int) + (i : Int) by omega] at this
    rw [show J.pos i = 2 + (J.p + (J.full + i)) % J.log by unfold JS.pos; rw [Nat.add_assoc]]
    exact this
  have CR : Hid (∀ W, Below w.heap.size w W -> ∀ i : Nat, Calls Tryz.prog 138 #[.pointer (some ⟨r, 0, none⟩), .int .i64 ((J.pos i : Nat) : Int)] W fun e w' => e = .returned (.tuple #[.string (D.rdB (J.pos i)), .int .i64 0]) /\ W = w') := fun W hW i => by
    have := rread_any ((J.pos i : Nat) : Int) (by omega) (hd.below hW)
    have hpl := ok.pos_lt i
    rw [DevS.rd_live hde _ (by omega)] at this
    exact this
  have HK : Hid (∀ W, Below w.heap.size w W -> W.cell? ⟨a, 0, none⟩ = some (.pointer (some ⟨r, 0, none⟩)) /\ W.cell? ⟨a, 7, none⟩ = some (.int .i64 (J.full : Int))) := fun W hW => ⟨(hj.below hW).c0, (hj.below hW).c7⟩
  have HRS : Hid (∀ i, (D.rdB (J.pos i)).size = 256) := fun i => hd.ok.rdB_size _ (by have := ok.pos_lt i; omega)
  clear hj hd ok hde
  obtain ⟨lf, hlf2⟩ : ∃ lf, J.left = lf := ⟨_, rfl⟩
  have wl : IntKind.i64.wrap ((J.log : Int) - (J.full : Int)) = (lf : Int) := by rw [show (J.log : Int) - (J.full : Int) = (lf : Int) by omega]; exact IntWalk.i64_in _ (by omega)
  rw [hlf2] at HFS
  have hlf3 : lf <= 4096 := by omega
  clear hlf hlf2
  go_enter Tryz.func140, Tryz.ntmps140
  go_wp2_with fail
  go_region
  have HB0 : Hid (Below w.heap.size w w.drew) := (Below.refl _ _).drew
  clear c3 c7 wl
  go_wp2_with fail
  go_loopw [6, 7] (fun lv i wr => ∃ k : Nat, k <= min lf 49 /\ i = .int .i64 (k : Int) /\ Hid (OwnS w.heap.size wr lv (J.readL D k)) /\ Hid (Below w.heap.size w wr)) (fun _ i _ => 50 - (intOf i).toNat)
  case atStart => exact ⟨0, Nat.zero_le _, rfl, OwnS.nil _ _, HB0⟩
  case round =>
    obtain ⟨k, hk, rfl, HO, HB⟩ := hrel
    by_cases hlt : k < min lf 49
    . have i1 : (k : Int) < (lf : Int) := by omega
      have i2 : (k : Int) < 49 := by omega
      have CPk := Lib.hid (fun W hW => CP.out W hW k (by omega))
      have CRk := Lib.hid (fun W hW => CR.out W hW k)
      have HSN := Lib.hid (readL_succ J D k)
      have hlen : (J.readL D k).length <= 49 := by rw [readL_len]; omega
      obtain ⟨c0, c7⟩ := HK.out _ HB.out
      have ws : IntKind.i64.wrap ((J.full : Int) + (k : Int)) = (J.full : Int) + (k : Int) := IntWalk.i64_in _ (by omega)
      generalize J.readL D k = M at *
      generalize D.rdB (J.pos k) = T at *
      generalize J.pos k = ps at *
      have hbr := HB.out.size
      go_wp2_with fail
      go_region_held3 (fun W => W.cell? ⟨a, 0, none⟩ = some (.pointer (some ⟨r, 0, none⟩)) /\ W.cell? ⟨a, 7, none⟩ = some (.int .i64 (J.full : Int)))
        (first | exact ⟨c0, c7⟩ | assumption)
        (first
          | (go_at_call 181; refine (CPk.out _ HB.out.drew).mono ?_; rintro e w1 ⟨rfl, rfl⟩)
          | (go_at_call 138; refine (CRk.out _ HB.out.drew.drew).mono ?_; rintro e w2 ⟨rfl, rfl⟩))
      have HB2 : Hid (Below w.heap.size w wr.drew.drew) := HB.out.drew.drew
      have HO2 : Hid (OwnS w.heap.size wr.drew.drew _ M) := HO.out.below ((Below.refl _ _).drew.drew)
      obtain ⟨w3, hw3⟩ : ∃ w3, wr.drew.drew = w3 := ⟨_, rfl⟩
      rw [hw3] at HB2 HO2 ⊢
      have hz3 := HB2.out.size
      clear hw3 ws c0 c7
      obtain ⟨ao2, c2, hv, _⟩ := HO2.out.sl
      subst hv
      go_wp2_with (at_builtin; go_loud (refine wpList_append_own _ rfl _ _ 47 rfl w.heap.size 9 i0 _ 1 16 Tryz.underlying47 hi hz0 hz1 HZ2.out rfl (by decide) _ _ _ rfl (HO2.out.alloc _) _ 1 1 [.string T] rfl rfl (one_cell (by simp)) one_one ?c3 ?c4 ?c5 ?_))
      case c3 => unfold maxLen; omega
      case c4 => omega
      case c5 => simp; omega
      intro v1 w4 hown hgrow _
      have HO4 : Hid (OwnS w.heap.size w4 v1 (J.readL D (k + 1))) := by
        show OwnS _ _ _ _
        rw [HSN.out]
        exact own_pushV hown
      have HB4 : Hid (Below w.heap.size w w4) := (HB2.out.alloc hz3 _).grown hgrow (by simp; omega) (fun q hq => (HO2.out.lt q hq).1)
      clear hown hgrow
      go_wp2
      go_roundw
      case rel => exact ⟨k + 1, by omega, by go_num, HO4, HB4⟩
      case measure => simp [intOf]; omega
    . have hkm : k = min lf 49 := by omega
      have hLs : ∀ d ∈ J.readL D k, d.size <= maxLen := fun d hd => by
        unfold JS.readL at hd
        simp only [List.mem_map, List.mem_range] at hd
        obtain ⟨i, _, rfl⟩ := hd
        have := HRS.out i
        unfold maxLen; omega
      have CU := Lib.hid (runpack_any (J.readL D k) u6 wr (by rw [readL_len]; omega) hLs HO.out.sl)
      rw [<- hkm] at HFS
      clear hkm hLs
      have hwl := unp_few (J.readL D k)
      obtain ⟨R, hR⟩ : ∃ R, unp (J.readL D k) = R := ⟨_, rfl⟩
      rw [hR] at CU HFS hwl
      clear hR
      obtain ⟨sq, ws, er⟩ := R
      simp only at CU hwl
      have HKn : Hid (∀ W, Below w.heap.size w W -> W.cell? ⟨a, 6, none⟩ = some (.int .u64 (J.next : Int))) := fun W hW => (HJ.out.below hW).c6
      have CH : Hid (∀ W, Below w.heap.size w W -> Calls Tryz.prog 145 #[.pointer (some ⟨a, 0, none⟩)] W fun e w' => e = .returned (.int .i64 J.home) /\ W = w') := fun W hW => vhome_at (HJ.out.below hW) (by omega)
      obtain ⟨qd, lcap, hcd⟩ : ∃ qd lcap, Hid (∀ W, Below w.heap.size w W -> W.cell? ⟨r, 0, none⟩ = some (.slice (some ⟨qd, 0, none⟩) D.disk.length lcap)) := by
        obtain ⟨qd, lcap, pv, href⟩ := HD.out
        exact ⟨qd, lcap, fun W hW => (href.kept (Only.of_below (fun _ => False) hW (Nat.le_refl _)) (fun _ _ f => f)).c0⟩
      have hju : (¬ (k : Int) < (lf : Int)) \/ ((k : Int) < (lf : Int) /\ ¬ (k : Int) < 49) := by omega
      clear CP CR HRS HJ HD
      obtain ⟨n, hnn⟩ : ∃ n, D.disk.length = n := ⟨_, rfl⟩
      rw [hnn] at HFS hcd hn hl1
      clear hnn HOK hp
      rcases hju with j1 | ⟨j1, j2⟩
      all_goals
        go_wp2_with fail
        refine CU.out.mono ?_
        rintro e w5 ⟨u, rfl, ho5, hb5⟩
        have HB5 : Hid (Below w.heap.size w w5) := keep_call HB.out hb5
        have HO5 : Hid (OwnW w.heap.size w5 u ws) := ho5.mono HB.out.size
        have c6 := HKn.out _ HB5.out
        clear ho5 hb5 CU
        by_cases he : er = 0
        . subst he
          by_cases hs : sq = J.next
          . subst hs
            have b1 : ((J.next : Int) != (J.next : Int)) = false := by simp
            obtain ⟨ao, cu, hv, _⟩ := HO5.out.sl
            subst hv
            go_wp2_with fail
            go_loopw [13] (fun i wr => ∃ j : Nat, j <= ws.length /\ i = .int .i64 (j : Int) /\ Hid (∀ x ∈ ws.take j, (J.home : Int) <= x.1 /\ x.1 < (n : Int)) /\ Hid (Below w5.heap.size w5 wr)) (fun i _ => ws.length - (intOf i).toNat)
            case atStart => exact ⟨0, Nat.zero_le _, rfl, fun x hx => by simp at hx, Below.refl _ _⟩
            case round =>
              obtain ⟨j, hj, rfl, HP, HBw⟩ := hrel
              have HBj : Hid (Below w.heap.size w wr) := keep_call HB5.out HBw.out
              have HOj : Hid (OwnW w.heap.size wr (.slice ao ws.length cu) ws) := HO5.out.below HBw.out
              by_cases hjl : j < ws.length
              . obtain ⟨gx, cx, hvx, _, _, _, hwa, _⟩ := HOj.out.here (by omega)
                obtain ⟨rfl, rfl⟩ : ao = some ⟨gx, 0, none⟩ /\ cu = cx := by simpa using hvx
                obtain ⟨x0, _⟩ := hwa j hjl
                have c0 := (HK.out _ HBj.out).1
                have dn := hcd.out _ HBj.out
                have HTk := Lib.hid (List.take_succ_eq_append_getElem hjl)
                have HMm : Hid (ws[j] ∈ ws) := List.getElem_mem hjl
                have HNo : Hid (¬ ((J.home : Int) <= ws[j].1 /\ ws[j].1 < (n : Int)) -> J.frameOf D = none) := fun hq => by rw [HFS.out, if_neg (fun h => hq (h.2.2 ws[j] HMm.out))]
                have HYe : Hid ((J.home : Int) <= ws[j].1 /\ ws[j].1 < (n : Int) -> ∀ x ∈ ws.take (j + 1), (J.home : Int) <= x.1 /\ x.1 < (n : Int)) := fun hq x hx => by
                  rw [HTk.out, List.mem_append, List.mem_singleton] at hx
                  rcases hx with hx | rfl
                  . exact HP.out x hx
                  . exact hq
                generalize ws[j].1 = x at *
                have i1 : (j : Int) < (ws.length : Int) := by omega
                clear hvx hwa HTk HMm HFS hcd HOj
                rw [Nat.zero_add] at x0
                by_cases q1 : x < (J.home : Int)
                . have HN := Lib.hid (HNo.out (by omega))
                  have d1 : decide (x < (J.home : Int)) = true := decide_eq_true q1
                  clear HNo HYe
                  generalize J.home = ho at *
                  go_wp2_with fail
                  go_quiet ((go_at_call 145; refine Calls.quiet_of_same (((CH.out _ ?_).mono (fun e w' h => ⟨h.1, h.2.symm⟩))); exact ⟨HBj.out.os, HBj.out.tape, HBj.out.output, HBj.out.size, HBj.out.block⟩))
                  go_wp2
                  go_ret3
                  exact ⟨_, _, false, rfl, Fr.below_drewN HBj.out _, .inl ⟨HN.out, rfl⟩⟩
                . have d1 : decide (x < (J.home : Int)) = false := decide_eq_false q1
                  by_cases q2 : (n : Int) <= x
                  . have HN := Lib.hid (HNo.out (by omega))
                    have d2 : decide ((n : Int) <= x) = true := decide_eq_true q2
                    clear HNo HYe
                    generalize J.home = ho at *
                    go_wp2_with fail
                    go_quiet ((go_at_call 145; refine Calls.quiet_of_same (((CH.out _ ?_).mono (fun e w' h => ⟨h.1, h.2.symm⟩))); exact ⟨HBj.out.os, HBj.out.tape, HBj.out.output, HBj.out.size, HBj.out.block⟩))
                    go_wp2
                    go_ret3
                    exact ⟨_, _, false, rfl, Fr.below_drewN HBj.out _, .inl ⟨HN.out, rfl⟩⟩
                  . have HY := Lib.hid (HYe.out ⟨by omega, by omega⟩)
                    have d2 : decide ((n : Int) <= x) = false := decide_eq_false q2
                    clear HNo HYe
                    generalize J.home = ho at *
                    go_wp2_with fail
                    go_quiet ((go_at_call 145; refine Calls.quiet_of_same (((CH.out _ ?_).mono (fun e w' h => ⟨h.1, h.2.symm⟩))); exact ⟨HBj.out.os, HBj.out.tape, HBj.out.output, HBj.out.size, HBj.out.block⟩))
                    go_wp2
                    go_roundw
                    case rel => exact ⟨j + 1, by omega, by go_num, HY, Fr.below_drewN HBw.out _⟩
                    case measure => simp [intOf]; omega
              . have hje : j = ws.length := by omega
                rw [hje, List.take_length] at HP
                have HS : Hid (J.frameOf D = some ws) := by show _ = _; rw [HFS.out, if_pos ⟨rfl, rfl, HP.out⟩]
                clear hje HP HFS hcd
                go_wp2
                go_ret3
                exact ⟨_, _, true, rfl, HBj.out, .inr ⟨ws, HS.out, rfl, rfl, HOj.out⟩⟩
          . have b1 : ((sq : Int) != (J.next : Int)) = true := by simp; omega
            have HN : Hid (J.frameOf D = none) := by show _ = _; rw [HFS.out, if_neg (fun h => hs h.2.1)]
            go_wp2
            go_ret3
            exact ⟨_, _, false, rfl, HB5.out, .inl ⟨HN.out, rfl⟩⟩
        . have b1 : ((er : Int) != 0) = true := by simp; omega
          have HN : Hid (J.frameOf D = none) := by show _ = _; rw [HFS.out, if_neg (fun h => he h.1)]
          go_wp2
          go_ret3
          exact ⟨_, _, false, rfl, HB5.out, .inl ⟨HN.out, rfl⟩⟩
end
end Go.Proofs.YthambopnmhkeeaaGreat
