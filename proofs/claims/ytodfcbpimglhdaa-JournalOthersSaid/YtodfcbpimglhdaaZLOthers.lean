/- JournalOthers: the walk: a commit changes just the blocks that it writes, and it is there at once. -/
import Derived.Test.YtodfcbpimglhdaaZLHome
import Derived.Deep.RegionHeld3
import Derived.IntWalk
import Derived.Test.YtodfcbpimglhdaaZLOpenA

namespace Go.Proofs.Ytodfcbpimglhdaa
open Go.RowKit
open Fr (SlW OwnW OwnS SlS flatI two_cells two_one own_pushW)

theorem conv1d (w : World) (x : Int) : (convert 78 9 (.slice (some ⟨w.heap.size, 0, none⟩) 1 1)).run Try.prog (w.alloc (.cells #[.int .u8 x] 5)).drew = .ok (.string (strOfNums [x])) (w.alloc (.cells #[.int .u8 x] 5)).drew := by
  refine run_convert_bytes_arg _ 78 5 Try.underlying78 Try.underlying5 w.heap.size 0 1 1 [x] rfl ?_ 9 Try.underlying9
  intro i hi
  show (w.alloc (.cells #[.int .u8 x] 5)).cell? _ = _
  rw [cell_at (heap_alloc_new ..)]
  match i, hi with
  | 0, _ => rfl
/-- The writes that JournalOthers commits. -/
def fineW (at_ : List Int) (B : Nat → ByteArray) (T : ByteArray) (k : Nat) : List Wr := (List.range k).map fun i => (52 + pickI (at_.getD i 0) 18, B i ++ T)
theorem fineW_succ (at_ : List Int) (B : Nat → ByteArray) (T : ByteArray) (k : Nat) : fineW at_ B T (k + 1) = fineW at_ B T k ++ [(52 + pickI (at_.getD k 0) 18, B k ++ T)] := by unfold fineW; rw [List.range_succ, List.map_append]; rfl
theorem fineW_len (at_ : List Int) (B : Nat → ByteArray) (T : ByteArray) (k : Nat) : (fineW at_ B T k).length = k := by simp [fineW]
section
variable {N m : Nat} {J : JS} {D : DevS} {H : Nat → ByteArray}
theorem Run.homeL (h : Run N m J D H) : D.homeL = hl H := by
  obtain ⟨⟨F, h1⟩, _, _⟩ := h
  unfold DevS.homeL homeK hl
  apply List.map_congr_left
  intro i hi
  have := List.mem_range.1 hi
  rw [DevS.rd_live h1.pre.live _ (by rw [h1.pre.len]; omega)]
  exact h1.pre.read (52 + i) (by omega) (by omega)
theorem Run.any (h : Run N m J D H) (hN : N + 2 < 1000000) {L : List Wr} (hl : L.length ≤ 52) : ∃ H', Run (N + 2) (m + 108) (J.commit D L).2.2 (J.commit D L).2.1 H' := by
  rcases h.step hN hl with ⟨_, a, b, _⟩ | ⟨_, _, _, _, a, _⟩
  · obtain ⟨⟨F, t1⟩, t2, t3⟩ := h
    rw [a, b]
    exact ⟨H, ⟨⟨F, t1.more (by omega) (by omega)⟩, t2, by omega⟩⟩
  · exact ⟨_, a⟩
theorem Run.fine (h : Run N m J D H) (hN : N + 2 < 1000000) {at_ : List Int} {B : Nat → ByteArray} {T : ByteArray} {n : Nat} (hn : 1 ≤ n ∧ n ≤ 48) (hT : ∀ i, (B i ++ T).size = 256) :
    (J.commit D (fineW at_ B T n)).1 = 0 ∧ ((J.commit D (fineW at_ B T n)).2.1).homeL = hl (put H (fineW at_ B T n)) ∧ (J.commit D (fineW at_ B T n)).2.1.pend.length ≤ m + 108 := by
  have hl := fineW_len at_ B T n
  have hlg : J.log = 50 := by obtain ⟨⟨F, h1⟩, _, _⟩ := h; exact h1.pre.good.lg
  have hc : J.chk 70 (fineW at_ B T n) = 0 := by
    refine (J.chk_ok 70 _).2 ⟨by omega, by omega, fun x hx => ?_⟩
    unfold fineW at hx
    simp only [List.mem_map, List.mem_range] at hx
    obtain ⟨i, _, rfl⟩ := hx
    have := pickI_lt (at_.getD i 0) 18 (by omega)
    refine ⟨?_, ?_, hT i⟩
    · show ((J.home : Nat) : Int) ≤ 52 + _; unfold JS.home; omega
    · show 52 + pickI (at_.getD i 0) 18 < ((70 : Nat) : Int); omega
  rcases h.step (L := fineW at_ B T n) hN (by omega) with ⟨_, _, _, b⟩ | ⟨a, _, _, _, b, _⟩
  · exact absurd hc b
  · exact ⟨a, b.homeL, b.pend⟩
end

/-- What stands in memory in the second loop. -/
structure Oth (w1 wq wr : World) (wb a p : Nat) (S : Nat → Prop) (J : JS) (D : DevS) (gw cw : Nat) (W : List ByteArray) (B2 : Nat) (xv : Value) (X : List Wr) : Prop where
  wd : Wd w1 wq wb a p S J D
  bel : Below wq.heap.size wq wr
  want : OwnS wq.heap.size wr (.slice (some ⟨gw, 0, none⟩) W.length cw) W
  x : OwnW B2 wr xv X
  lt : gw < B2
  le : B2 ≤ wr.heap.size
section
variable {w1 wq wr wr' : World} {wb a p gw cw B2 : Nat} {S : Nat → Prop} {J : JS} {D : DevS} {W : List ByteArray} {xv : Value} {X : List Wr}
theorem Oth.below (h : Oth w1 wq wr wb a p S J D gw cw W B2 xv X) (hb : Below wr.heap.size wr wr') : Oth w1 wq wr' wb a p S J D gw cw W B2 xv X :=
  ⟨h.wd, h.bel.trans (hb.mono h.bel.size), h.want.below hb, h.x.below hb, h.lt, Nat.le_trans h.le hb.size⟩
theorem Oth.next (h : Oth w1 wq wr wb a p S J D gw cw W B2 xv X) {xv' : Value} {X' : List Wr} (ho : OwnW B2 wr' xv' X') (hg : wr.grownBy wr' xv.ownBlock) (j : Nat) (s : ByteArray) :
    Oth w1 wq (wr'.setCell ⟨gw, j, none⟩ (.string s)) wb a p S J D gw cw (W.set j s) B2 xv' X' := by
  have hge := (h.want.lt gw rfl).1
  have hgl := (h.want.lt gw rfl).2
  have hlt := h.lt
  have hx := h.x.lt
  have hw : OwnS wq.heap.size wr' (.slice (some ⟨gw, 0, none⟩) W.length cw) W := own_keep h.want (fun g hgq hl => by
    have e : gw = g := by simpa [Value.ownBlock] using hgq
    subst e
    exact hg.block gw hl (fun e => by have := (hx gw e.symm).1; omega))
  refine ⟨h.wd, (h.bel.grown hg h.bel.size (fun q hq => by have := (hx q hq).1; omega)).setCell (p := ⟨gw, j, none⟩) hge _, ?_, own_keep ho (fun g hgq hl => Below.heap_setCell _ _ _ _ (fun e => ?_)), h.lt, by have := hg.size; have := h.le; simp [World.setCell]; omega⟩
  · have := hw.store j s
    rw [List.length_set]
    exact this
  · have := (ho.lt g hgq).1
    simp only at e
    omega
theorem Oth.ge (h : Oth w1 wq wr wb a p S J D gw cw W B2 xv X) : wq.heap.size ≤ gw := (h.want.lt gw rfl).1
end
theorem begin_run' : ∃ DB, (∀ w, Calls Try.prog 26 #[] w fun e w' => ∃ wb a p S, e = .returned (.tuple #[.pointer (some ⟨wb, 0, none⟩), .bool true]) ∧ Wd w w' wb a p S Jb DB) ∧ Run 2 0 Jb DB (fun _ => noughts) := by
  obtain ⟨_, hsy, hpn, hfu⟩ := begin_sync 70 (by omega) (by omega)
  exact ⟨Db 70, begin_any, ⟨⟨_, hsy⟩, hfu, by rw [hpn]; simp⟩⟩

set_option maxRecDepth 100000 in
set_option maxHeartbeats 4000000 in
theorem others_walk (v vat : Value) (s : ByteArray) (L : List Act4) (AT : List Int) (w : World) (hL : Acts4 w v L) (hAT : Nums w vat AT) (hs : s.size ≤ maxLen) :
    Calls Try.prog 7 #[v, vat, .string s] w fun e w' => e = .returned (.bool true) ∧ Below w.heap.size w w' := by
  obtain ⟨i0, hi, hz0, hz1, hz2⟩ := info_parts Try.infoW
  have HZ2 := Lib.hid hz2; clear hz2
  have CS := Lib.hid (shown_any w)
  have CM : Hid (∀ W, Below w.heap.size w W → Calls Try.prog 25 #[v] W fun e w' => e = .returned (.bool (small4 L)) ∧ W = w') := fun W hW => small4_any hL hW
  obtain ⟨DB, hbeg, hrun⟩ := begin_run'
  have CB := Lib.hid hbeg; have HR := Lib.hid hrun
  clear hbeg hrun
  have HA := Lib.hid hL
  obtain ⟨ao, cap, hv⟩ : ∃ ao cap, v = .slice ao L.length cap := by obtain ⟨_, _, ao, cap, hv, _⟩ := hL; exact ⟨ao, cap, hv⟩
  obtain ⟨hati, hatl, aoT, capT, hvt, hatc⟩ := hAT
  have HATI := Lib.hid hati; have HATC := Lib.hid hatc
  clear hL hati hatc
  unfold maxLen at hs
  obtain ⟨n, hn⟩ : ∃ n, L.length = n := ⟨_, rfl⟩
  have HN := Lib.hid hn
  obtain ⟨nt, hnt⟩ : ∃ nt, AT.length = nt := ⟨_, rfl⟩
  have HNT := Lib.hid hnt
  rw [hn] at hv
  rw [hnt] at hvt hatl
  clear hn hnt
  subst hv hvt
  by_cases hg : small4 L = true ∧ nt ≤ 48 ∧ 1 ≤ nt ∧ s.size ≤ 600
  · obtain ⟨hsm, hn48, hn1, hs6⟩ := hg
    have hsm' := hsm
    unfold small4 at hsm'
    simp only [decide_eq_true_eq] at hsm'
    obtain ⟨hl30, hfit⟩ := hsm'
    rw [hsm] at CM
    rw [HN.out] at hl30
    have HF := Lib.hid hfit
    clear hsm hfit
    have g1 : decide ((48 : Int) < (nt : Int)) = false := decide_eq_false (by omega)
    have g2 : ((nt : Int) == 0) = false := beq_eq_false_iff_ne.2 (by omega)
    have g3 : decide ((600 : Int) < (s.size : Int)) = false := decide_eq_false (by omega)
    go_enter Try.func7, Try.ntmps7
    go_wp2_with fail
    refine CS.out.mono ?_
    rintro e w1 ⟨rfl, hb1⟩
    have CM1 := Lib.hid (CM.out _ hb1)
    have HB1 := Lib.hid hb1
    clear hb1 CM CS
    go_wp2_with fail
    refine CM1.out.mono ?_
    rintro e w1' ⟨rfl, rfl⟩
    clear CM1
    go_wp2_with fail
    refine (CB.out _).mono ?_
    rintro e w2 ⟨wb, a, p, S2, rfl, hw2⟩
    have HW2 := Lib.hid hw2; clear hw2 CB
    go_wp2_with fail
    go_loopw [11] (fun i wr => ∃ k : Nat, k ≤ n ∧ i = .int .i64 (k : Int) ∧ Hid (∃ S J D H, Wd w1 wr wb a p S J D ∧ Run (2 + 2 * k) (108 * k) J D H)) (fun i _ => n - (intOf i).toNat)
    case atStart => exact ⟨0, Nat.zero_le _, rfl, ⟨_, _, _, _, HW2.out, HR.out⟩⟩
    case round =>
      obtain ⟨k, hk, rfl, HS⟩ := hrel
      by_cases hlt : k < n
      · obtain ⟨S, J, D, H, hwd, hrn⟩ := HS.out
        have HW := Lib.hid hwd; have HRn := Lib.hid hrn
        clear hwd hrn HS
        have hkL : k < L.length := by rw [HN.out]; exact hlt
        have HKA : Hid (∀ W, Below w1.heap.size w1 W → ∃ g off cap', Value.slice ao n cap = .slice (some ⟨g, off, none⟩) L.length cap' ∧ W.cell? ⟨g, off + k * 6, none⟩ = some (.int .i64 L[k].op) ∧ W.cell? ⟨g, off + k * 6 + 1, none⟩ = some (.int .i64 L[k].n) ∧ W.cell? ⟨g, off + k * 6 + 2, none⟩ = some (.int .i64 L[k].at_) ∧
            W.cell? ⟨g, off + k * 6 + 3, none⟩ = some (.slice L[k].kao L[k].keep.length L[k].kcap) ∧ W.cell? ⟨g, off + k * 6 + 4, none⟩ = some (.slice L[k].bao L[k].blks.length L[k].bcap) ∧ W.cell? ⟨g, off + k * 6 + 5, none⟩ = some (.string L[k].data)) := fun W hW => HA.out.cell (HB1.out.trans (hW.mono HB1.out.size)) k hkL
        have HAk := Lib.hid (HA.out.1 L[k] (List.getElem_mem hkL))
        have HFk := Lib.hid (HF.out L[k] (List.getElem_mem hkL))
        obtain ⟨g, off, cap', hv, c0, c1, c2, c3, c4, c5⟩ := HKA.out _ HW.out.bel
        obtain ⟨rfl, hnl, rfl⟩ : ao = some ⟨g, off, none⟩ ∧ n = L.length ∧ cap = cap' := by simpa using hv
        clear hnl hv
        generalize L[k] = A at *
        have d1 := HW.out.c1
        have HK : Hid (∀ W, (∃ S J D, Wd w1 W wb a p S J D) → W.cell? ⟨wb, 1, none⟩ = some (.pointer (some ⟨a, 0, none⟩)) ∧ W.cell? ⟨g, off + k * 6, none⟩ = some (.int .i64 A.op) ∧ W.cell? ⟨g, off + k * 6 + 1, none⟩ = some (.int .i64 A.n) ∧ W.cell? ⟨g, off + k * 6 + 2, none⟩ = some (.int .i64 A.at_) ∧
            W.cell? ⟨g, off + k * 6 + 3, none⟩ = some (.slice A.kao A.keep.length A.kcap) ∧ W.cell? ⟨g, off + k * 6 + 4, none⟩ = some (.slice A.bao A.blks.length A.bcap) ∧ W.cell? ⟨g, off + k * 6 + 5, none⟩ = some (.string A.data)) := fun W ⟨S, J, D, hW⟩ => by
          obtain ⟨g', off', cap', hv, e0, e1, e2, e3, e4, e5⟩ := HKA.out W hW.bel
          obtain ⟨⟨rfl, rfl⟩, _, _⟩ : (g = g' ∧ off = off') ∧ n = L.length ∧ cap = cap' := by simpa using hv
          exact ⟨hW.c1, e0, e1, e2, e3, e4, e5⟩
        have CW : Hid (∀ W, Below wr.heap.size wr W → Calls Try.prog 29 #[.agg #[.int .i64 A.op, .int .i64 A.n, .int .i64 A.at_, .slice A.kao A.keep.length A.kcap, .slice A.bao A.blks.length A.bcap, .string A.data]] W fun e w' => ∃ u, e = .returned u ∧ OwnW W.heap.size w' u A.wrs ∧ Below W.heap.size W w') := fun W hW =>
          writes_any A W HFk.out.1 HFk.out.2.2 HAk.out.bin (HAk.out.blks.below ((HB1.out.trans (HW.out.bel.mono HB1.out.size)).trans (hW.mono (Nat.le_trans HB1.out.size HW.out.bel.size))))
        have CC : Hid (∀ u W, Below wr.heap.size wr W → OwnW wr.heap.size W u A.wrs → Calls Try.prog 30 #[.pointer (some ⟨a, 0, none⟩), u] W fun e w' => e = .returned (.int .i64 (J.commit D A.wrs).1) ∧ ∃ S', Wd w1 w' wb a p S' (J.commit D A.wrs).2.2 (J.commit D A.wrs).2.1) := fun u W hW hO =>
          HW.out.commitO hW hO (Below.refl _ _) HRn.out.ok (by have := HRn.out.pend; omega) (by have := A.wrs_len; omega) A.wrs_size
        obtain ⟨H', hst⟩ := HRn.out.any (L := A.wrs) (by omega) A.wrs_len
        obtain ⟨M, hM⟩ : ∃ M, A.wrs = M := ⟨_, rfl⟩
        rw [hM] at CW CC hst
        clear hM HAk HFk HW2 HR
        generalize hR : J.commit D M = R at *
        obtain ⟨e1, D1, J1⟩ := R
        simp only at hst CC
        have HST := Lib.hid hst
        clear hst hR
        have HKB : Hid (∀ W, Below wr.heap.size wr W → ∃ S J D, Wd w1 W wb a p S J D) := fun W hW => ⟨_, _, _, HW.out.below hW⟩
        go_wp2_with fail
        go_region_held3 (fun W => W.cell? ⟨wb, 1, none⟩ = some (.pointer (some ⟨a, 0, none⟩)) ∧ W.cell? ⟨g, off + k * 6, none⟩ = some (.int .i64 A.op) ∧ W.cell? ⟨g, off + k * 6 + 1, none⟩ = some (.int .i64 A.n) ∧ W.cell? ⟨g, off + k * 6 + 2, none⟩ = some (.int .i64 A.at_) ∧
            W.cell? ⟨g, off + k * 6 + 3, none⟩ = some (.slice A.kao A.keep.length A.kcap) ∧ W.cell? ⟨g, off + k * 6 + 4, none⟩ = some (.slice A.bao A.blks.length A.bcap) ∧ W.cell? ⟨g, off + k * 6 + 5, none⟩ = some (.string A.data))
          (first | exact ⟨d1, c0, c1, c2, c3, c4, c5⟩ | assumption)
          (first
            | (go_at_call 29; refine (CW.out _ ((Below.refl _ _).drew)).mono ?_; rintro e w5 ⟨u, rfl, ho5, hb5'⟩; have hb5 : Below wr.heap.size wr w5 := Fr.below_predrew hb5'; have hh5 := HK.out _ (HKB.out _ hb5); have CC5 := Lib.hid (CC.out u w5 hb5 ho5); clear hb5' ho5)
            | (go_at_call 30; refine CC5.out.mono ?_; rintro e w6 ⟨rfl, S6, hw6⟩; have hh6 := HK.out _ ⟨_, _, _, hw6⟩))
        all_goals
          have HW6 := Lib.hid hw6
          clear hw6 c0 c1 c2 c3 c4 c5 d1
          go_wp2
          go_roundw
          case rel => exact ⟨k + 1, by omega, by go_num, ⟨_, _, _, _, HW6.out, by rw [show 2 + 2 * (k + 1) = 2 + 2 * k + 2 by omega, show 108 * (k + 1) = 108 * k + 108 by omega]; exact HST.out⟩⟩
          case measure => simp [intOf]; omega
      · obtain ⟨wq, hwq⟩ : ∃ wq, wq = wr := ⟨_, rfl⟩
        subst hwq
        obtain ⟨S, J, D, H, hwd, hrn⟩ := HS.out
        have CH := Lib.hid (homeL_any hwd (by have := hrn.pend; omega))
        rw [hrn.homeL] at CH
        have HWd := Lib.hid hwd; have HRn := Lib.hid hrn
        clear hwd hrn HS HW2 HR
        go_wp2_with fail
        refine CH.out.mono ?_
        rintro e wh ⟨u, rfl, hoh, hbh⟩
        obtain ⟨gw, cw, hu, hcw, hg1, hg2, _, _⟩ := hoh.here (by rw [hl_len]; omega)
        have HHL := Lib.hid (hl_len H)
        subst hu
        obtain ⟨T0, hT0⟩ : ∃ T, textOf (byteAt s) = T := ⟨_, rfl⟩
        have zT0 : T0.size = 256 := by rw [← hT0]; exact textOf_size _
        have HOt : Hid (Oth w1 wq wh wb a p S J D gw cw (hl (put H (fineW AT (fun i => strOfNums [(i : Int)]) (T0.extract 1 T0.size) 0))) wh.heap.size (.slice none 0 0) (fineW AT (fun i => strOfNums [(i : Int)]) (T0.extract 1 T0.size) 0)) :=
          ⟨HWd.out, hbh, hoh, OwnW.nil _ _, hg2, Nat.le_refl _⟩
        have HT0 := Lib.hid hT0
        have hB0 := hg2
        clear hT0 hoh hbh CH hg1
        rw [HHL.out]
        rw [HHL.out] at hcw
        obtain ⟨B2, hB2⟩ : ∃ B, wh.heap.size = B := ⟨_, rfl⟩
        rw [hB2] at HOt
        clear hB2 hg2 hB0
        go_wp2_with fail
        go_loopw [13, 14] (fun xv i wr2 => ∃ k : Nat, k ≤ nt ∧ i = .int .i64 (k : Int) ∧ Hid (Oth w1 wq wr2 wb a p S J D gw cw (hl (put H (fineW AT (fun i => strOfNums [(i : Int)]) (T0.extract 1 T0.size) k))) B2 xv (fineW AT (fun i => strOfNums [(i : Int)]) (T0.extract 1 T0.size) k))) (fun _ i _ => nt - (intOf i).toNat)
        case atStart => exact ⟨0, Nat.zero_le _, rfl, HOt⟩
        case round =>
          obtain ⟨j, hj, rfl, HO⟩ := hrel
          clear HOt
          by_cases hjt : j < nt
          · have hjA : j < AT.length := by rw [HNT.out]; exact hjt
            obtain ⟨gt, ot, rfl, hgt, hct⟩ : ∃ gt ot, aoT = some ⟨gt, ot, none⟩ ∧ gt < w.heap.size ∧ w.cell? ⟨gt, ot + j, none⟩ = some (.int .i64 AT[j]) := by
              rcases HATC.out with h | ⟨gt, ot, h1, h2, h3⟩
              · rw [h] at hjA; simp at hjA
              · exact ⟨gt, ot, h1, h2, h3 j hjA⟩
            have hat2 : wr.cell? ⟨gt, ot + j, none⟩ = some (.int .i64 AT[j]) := by
              have hb := HB1.out.trans ((HO.out.wd.bel.trans (HO.out.bel.mono HO.out.wd.bel.size)).mono HB1.out.size)
              exact (hb.cell (p := ⟨gt, ot + j, none⟩) hgt).trans hct
            have hai := HATI.out AT[j] (List.getElem_mem hjA)
            have HSN := Lib.hid (fineW_succ AT (fun i => strOfNums [(i : Int)]) (T0.extract 1 T0.size) j)
            have hgd : AT.getD j 0 = AT[j] := by simp [List.getD, hjA]
            rw [hgd] at HSN
            clear hgd hct
            generalize AT[j] = x at *
            have CF := Lib.hid (fun W => fine_any x s W hai hs6)
            rw [HT0.out] at CF
            have hpx := pickI_lt x 18 (by omega)
            generalize pickI x 18 = px at *
            obtain ⟨pn, rfl⟩ : ∃ pn : Nat, px = (pn : Int) := ⟨px.toNat, by omega⟩
            have hlenX : (fineW AT (fun i => strOfNums [(i : Int)]) (T0.extract 1 T0.size) j).length ≤ 48 := by rw [fineW_len]; omega
            generalize fineW AT (fun i => strOfNums [(i : Int)]) (T0.extract 1 T0.size) j = M at *
            go_wp2_with fail
            refine (CF.out _).mono ?_
            rintro e w3 ⟨rfl, hb3⟩
            have HO3 := Lib.hid (HO.out.below hb3)
            clear hb3
            obtain ⟨X, hX⟩ : ∃ X, w3.alloc (.cells #[.int .i64 (52 + (pn : Int)), .string T0] 71) = X := ⟨_, rfl⟩
            have hbX : Below w3.heap.size w3 X := by rw [← hX]; exact (Below.refl _ _).alloc (Nat.le_refl _) _
            have hxc : X.heap[w3.heap.size]? = some (.cells #[.int .i64 (52 + (pn : Int)), .string T0] 71 (0, 0)) := by rw [← hX]; exact heap_alloc_new ..
            have x0 : X.cell? ⟨w3.heap.size, 0, none⟩ = some (.int .i64 (52 + (pn : Int))) := by rw [cell_at hxc]; rfl
            have x1 : X.cell? ⟨w3.heap.size, 1, none⟩ = some (.string T0) := by rw [cell_at hxc]; rfl
            have x2 : X.frozen? ⟨w3.heap.size, 1, none⟩ = false := free_at hxc 1
            have x3 : w3.heap.size < X.heap.size := (Array.getElem?_eq_some_iff.1 hxc).1
            have HXC := Lib.hid hxc
            have HOX := Lib.hid (HO3.out.below hbX)
            have HX := Lib.hid hX
            clear hX hxc hbX
            obtain ⟨B1, hB1⟩ : ∃ B, strOfNums [(j : Int)] = B := ⟨_, rfl⟩
            have zB : B1.size = 1 := by rw [← hB1, strOfNums_size]; rfl
            have zB1 : B1.size ≤ 1 := by omega
            have zT1 : T0.size ≤ 256 := by omega
            have zT3 : 256 ≤ T0.size := by omega
            have zT2 : 1 ≤ T0.size := by omega
            rw [hB1] at HSN
            have hconv : (convert 78 9 (.slice (some ⟨X.heap.size, 0, none⟩) 1 1)).run Try.prog (X.alloc (.cells #[.int .u8 (j : Int)] 5)).drew = .ok (.string B1) (X.alloc (.cells #[.int .u8 (j : Int)] 5)).drew := by rw [← hB1]; exact conv1d X j
            clear hB1 zB zT0
            have j1 : (j : Int) < 52 := by omega
            go_wp2_with fail
            rw [HX.out]
            have hwj : IntKind.u8.wrap (j : Int) = (j : Int) := IntWalk.u8_in _ (by omega)
            go_region
            obtain ⟨T1, hT1⟩ : ∃ T, B1 ++ T0.extract 1 T0.size = T := ⟨_, rfl⟩
            rw [hT1] at HSN ⊢
            clear hT1 hconv x0 x1 x2
            obtain ⟨Y, hY⟩ : ∃ Y, ((X.setCell ⟨w3.heap.size, 1, none⟩ (.string T1)).alloc (.cells #[.int .u8 (j : Int)] 5)).drew = Y := ⟨_, rfl⟩
            rw [hY]
            have hbY : Below w3.heap.size w3 Y := by
              rw [← hY, ← HX.out]
              exact ((((Below.refl _ _).alloc (Nat.le_refl _) _).setCell (p := ⟨w3.heap.size, 1, none⟩) (Nat.le_refl _) _).alloc (by simp [World.setCell]) _).drew
            have hyc : Y.heap[w3.heap.size]? = some (.cells #[.int .i64 (52 + (pn : Int)), .string T1] 71 (0, 0)) := by
              rw [← hY]
              have h1 := heap_setCell_at (i := 1) HXC.out (.string T1)
              have h2 : w3.heap.size < (X.setCell ⟨w3.heap.size, 1, none⟩ (.string T1)).heap.size := (Array.getElem?_eq_some_iff.1 h1).1
              exact (Below.heap_alloc _ _ _ h2).trans h1
            have y0 : Y.cell? ⟨w3.heap.size, 0, none⟩ = some (.int .i64 (52 + (pn : Int))) := by rw [cell_at hyc]; rfl
            have y1 : Y.cell? ⟨w3.heap.size, 1, none⟩ = some (.string T1) := by rw [cell_at hyc]; rfl
            have HOY := Lib.hid (HO3.out.below hbY)
            have hyl : w3.heap.size < Y.heap.size := (Array.getElem?_eq_some_iff.1 hyc).1
            have HYC := Lib.hid hyc; have HY := Lib.hid hY
            have hxl := HO3.out.x.lt
            have HXL := Lib.hid hxl
            clear hY hbY hyc HOX HXC HX x3 HO3 hxl
            have hB2Y := HOY.out.le
            obtain ⟨ao2, c2, hv2, _⟩ := HOY.out.x.sl
            subst hv2
            have HAl : Hid (OwnW B2 Y (.slice ao2 M.length c2) M) := HOY.out.x
            go_wp2_with (at_builtin; go_loud (refine wpList_append_own _ rfl _ _ 42 rfl B2 71 i0 _ 2 24 Try.underlying42 hi hz0 hz1 HZ2.out rfl (by decide) _ _ _ rfl (HAl.out.alloc _) _ 1 1 [.int .i64 (52 + (pn : Int)), .string T1] rfl rfl (two_cells (by simp)) two_one ?c3 ?c4 ?c5 ?_))
            case c3 => unfold maxLen; omega
            case c4 => omega
            case c5 => simp; omega
            intro v1 w5 hown hgrow _
            have hne : w3.heap.size < (Y.alloc (.cells #[.int .i64 (52 + (pn : Int)), .string T1] 71)).heap.size := by simp; omega
            have hnr : some w3.heap.size ≠ (Value.slice ao2 M.length c2).ownBlock := fun e => by have := (HXL.out _ e.symm).2; omega
            have hb0 : (Y.alloc (.cells #[.int .i64 (52 + (pn : Int)), .string T1] 71)).heap[w3.heap.size]? = some (.cells #[.int .i64 (52 + (pn : Int)), .string T1] 71 (0, 0)) := (Below.heap_alloc _ _ _ hyl).trans HYC.out
            have hz5 := (hgrow.block _ hne hnr).trans hb0
            have z0 : w5.cell? ⟨w3.heap.size, 0, none⟩ = some (.int .i64 (52 + (pn : Int))) := by rw [cell_at hz5]; rfl
            have z1 : w5.cell? ⟨w3.heap.size, 1, none⟩ = some (.string T1) := by rw [cell_at hz5]; rfl
            have hOA := HOY.out.below ((Below.refl Y.heap.size Y).alloc (Nat.le_refl _) (.cells #[.int .i64 (52 + (pn : Int)), .string T1] 71))
            have HN5 := Lib.hid (hOA.next (own_pushW hown) hgrow pn T1)
            have hst5 : OwnS wq.heap.size w5 (.slice (some ⟨gw, 0, none⟩) (hl (put H M)).length cw) (hl (put H M)) := own_keep hOA.want (fun g hgq hl => by
              have e : gw = g := by simpa [Value.ownBlock] using hgq
              subst e
              exact hgrow.block gw hl (fun e => by have := (hOA.x.lt gw e.symm).1; have := hOA.lt; omega))
            obtain ⟨q1, q2, hq, _, _, _, hsa, hfr⟩ := hst5.here (by rw [hl_len]; omega)
            obtain ⟨rfl, _⟩ : gw = q1 ∧ cw = q2 := by simpa using hq
            have s5 := hsa pn (by rw [hl_len]; omega)
            rw [Nat.zero_add] at s5
            have f5 := hfr pn
            have HN6 : Hid (Oth w1 wq (w5.setCell ⟨gw, pn, none⟩ (.string T1)) wb a p S J D gw cw (hl (put H (fineW AT (fun i => strOfNums [(i : Int)]) (T0.extract 1 T0.size) (j + 1)))) B2 v1 (fineW AT (fun i => strOfNums [(i : Int)]) (T0.extract 1 T0.size) (j + 1))) := by
              rw [HSN.out, hl_put H M (52 + (pn : Int), T1) pn (by show 52 + (pn : Int) = ((52 + pn : Nat) : Int); omega)]
              exact HN5.out
            clear hown hgrow hq hsa hfr hst5 hOA HN5 hz5 hb0 hne hnr HOY HYC HXL y0 y1 HSN HO
            generalize (hl (put H M))[pn]'_ = old at *
            have i1 : (pn : Int) < 18 := by omega
            go_wp2
            go_roundw
            case rel => exact ⟨j + 1, by omega, by go_num, HN6⟩
            case measure => simp [intOf]; omega
          · have hjn : j = nt := by omega
            rw [hjn] at HO
            clear hjn
            have hzT : ∀ i : Nat, (strOfNums [(i : Int)] ++ T0.extract 1 T0.size).size = 256 := fun i => by
              rw [ByteArray.size_append, strOfNums_size, ByteArray.size_extract, zT0]; rfl
            obtain ⟨r1, r2, r3⟩ := HRn.out.fine (at_ := AT) (B := fun i => strOfNums [(i : Int)]) (T := T0.extract 1 T0.size) (n := nt) (by omega) ⟨hn1, hn48⟩ hzT
            have hXl := fineW_len AT (fun i => strOfNums [(i : Int)]) (T0.extract 1 T0.size) nt
            have hXs : ∀ x ∈ fineW AT (fun i => strOfNums [(i : Int)]) (T0.extract 1 T0.size) nt, x.2.size ≤ maxLen := fun x hx => by
              unfold fineW at hx
              simp only [List.mem_map, List.mem_range] at hx
              obtain ⟨i, _, rfl⟩ := hx
              have := hzT i
              unfold maxLen
              show (strOfNums [(i : Int)] ++ T0.extract 1 T0.size).size ≤ _
              omega
            generalize fineW AT (fun i => strOfNums [(i : Int)]) (T0.extract 1 T0.size) nt = M at *
            have hqB : wq.heap.size ≤ B2 := by have := HO.out.ge; have := HO.out.lt; omega
            have CC := Lib.hid (HO.out.wd.commitX HO.out.bel (HO.out.x.mono hqB) HRn.out.ok (by have := HRn.out.pend; omega) (by omega) hXs)
            obtain ⟨ao2, c2, hv2, _⟩ := HO.out.x.sl
            subst hv2
            have d1 := (HO.out.wd.below HO.out.bel).c1
            generalize hR : J.commit D M = R at *
            obtain ⟨e1, D1, J1⟩ := R
            simp only at r1 r2 r3 CC
            subst r1
            have HR2 := Lib.hid r2
            have HML := Lib.hid hXl
            clear hR hXs hzT r2 hXl zT0
            go_wp2_with fail
            refine CC.out.mono ?_
            rintro e w6 ⟨rfl, ⟨S6, hw6⟩, hk6⟩
            have HWt : Hid (OwnS wq.heap.size w6 (.slice (some ⟨gw, 0, none⟩) (hl (put H M)).length cw) (hl (put H M))) := own_keep HO.out.want (fun g hgq hlt => by
              have e : gw = g := by simpa [Value.ownBlock] using hgq
              subst e
              have hge := HO.out.ge
              refine hk6 gw hlt (fun hs => ?_) (fun e => ?_)
              · have := HO.out.wd.dev.lt _ hs; omega
              · have := HO.out.wd.jr.lt; omega)
            have CH6 := Lib.hid (homeL_any hw6 (by omega))
            rw [HR2.out] at CH6
            have HW6 := Lib.hid hw6
            clear hk6 hw6 CC d1 HO
            have HLN := Lib.hid (hl_len (put H M))
            generalize hl (put H M) = WL at *
            rw [HLN.out] at HWt
            go_wp2_with fail
            refine CH6.out.mono ?_
            rintro e w7 ⟨u7, rfl, ho7, hb7⟩
            have CSm : Hid (Calls Try.prog 18 #[u7, .slice (some ⟨gw, 0, none⟩) 18 cw] w7 fun e w' => e = .returned (.bool true) ∧ Below w7.heap.size w7 w') := by
              have := same_dec WL WL u7 (.slice (some ⟨gw, 0, none⟩) 18 cw) w7 (by rw [HLN.out]; omega) rfl ho7.sl (HWt.out.below hb7).sl
              rw [decide_eq_true (rfl : WL = WL)] at this
              exact this
            have HW7 := Lib.hid (HW6.out.below hb7)
            clear ho7 hb7 CH6
            go_wp2_with fail
            refine CSm.out.mono ?_
            rintro e w8 ⟨rfl, hb8⟩
            have HB8 := Lib.hid (HB1.out.trans ((HW7.out.below hb8).bel.mono HB1.out.size))
            clear hb8 CSm
            go_wp2
            go_ret
            exact ⟨rfl, HB8.out⟩
  · clear HA HR CB HATI HATC
    by_cases h1 : small4 L = true
    · rw [h1] at CM
      by_cases h2 : nt ≤ 48
      · have g1 : decide ((48 : Int) < (nt : Int)) = false := decide_eq_false (by omega)
        by_cases h3 : 1 ≤ nt
        · have h4 : ¬ s.size ≤ 600 := fun h => hg ⟨h1, h2, h3, h⟩
          have g2 : ((nt : Int) == 0) = false := beq_eq_false_iff_ne.2 (by omega)
          have g3 : decide ((600 : Int) < (s.size : Int)) = true := decide_eq_true (by omega)
          clear hg h1
          go_enter Try.func7, Try.ntmps7
          go_wp2_with fail
          refine CS.out.mono ?_
          rintro e w1 ⟨rfl, hb1⟩
          have CM1 := Lib.hid (CM.out _ hb1)
          have HB1 := Lib.hid hb1
          clear hb1 CM CS
          go_wp2_with fail
          refine CM1.out.mono ?_
          rintro e w1' ⟨rfl, rfl⟩
          clear CM1
          go_wp2
          go_ret
          exact ⟨rfl, HB1.out⟩
        · have g2 : ((nt : Int) == 0) = true := beq_iff_eq.2 (by omega)
          clear hg h1
          go_enter Try.func7, Try.ntmps7
          go_wp2_with fail
          refine CS.out.mono ?_
          rintro e w1 ⟨rfl, hb1⟩
          have CM1 := Lib.hid (CM.out _ hb1)
          have HB1 := Lib.hid hb1
          clear hb1 CM CS
          go_wp2_with fail
          refine CM1.out.mono ?_
          rintro e w1' ⟨rfl, rfl⟩
          clear CM1
          go_wp2
          go_ret
          exact ⟨rfl, HB1.out⟩
      · have g1 : decide ((48 : Int) < (nt : Int)) = true := decide_eq_true (by omega)
        clear hg h1
        go_enter Try.func7, Try.ntmps7
        go_wp2_with fail
        refine CS.out.mono ?_
        rintro e w1 ⟨rfl, hb1⟩
        have CM1 := Lib.hid (CM.out _ hb1)
        have HB1 := Lib.hid hb1
        clear hb1 CM CS
        go_wp2_with fail
        refine CM1.out.mono ?_
        rintro e w1' ⟨rfl, rfl⟩
        clear CM1
        go_wp2
        go_ret
        exact ⟨rfl, HB1.out⟩
    · have hsm' : small4 L = false := by simpa using h1
      rw [hsm'] at CM
      clear hg h1 hsm'
      go_enter Try.func7, Try.ntmps7
      go_wp2_with fail
      refine CS.out.mono ?_
      rintro e w1 ⟨rfl, hb1⟩
      have CM1 := Lib.hid (CM.out _ hb1)
      have HB1 := Lib.hid hb1
      clear hb1 CM CS
      go_wp2_with fail
      refine CM1.out.mono ?_
      rintro e w1' ⟨rfl, rfl⟩
      clear CM1
      go_wp2
      go_ret
      exact ⟨rfl, HB1.out⟩
end Go.Proofs.Ytodfcbpimglhdaa
