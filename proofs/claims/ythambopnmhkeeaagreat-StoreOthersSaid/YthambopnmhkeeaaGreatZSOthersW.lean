/- StoreOthers: the walk: a write is read at once, other blocks stay as they are; aborted it is as it was, committed it stays. -/
import Derived.Test.YthambopnmhkeeaaGreatZXBegin
import Derived.Deep.RegionHeld3

set_option maxRecDepth 100000
namespace Go.Proofs.YthambopnmhkeeaaGreat
open Go.RowKit
theorem txt_piece (l : List UInt8) (i n : Nat) : (txt l).extract i (i + n) = txt ((l.drop i).take n) := by
 rw [txt_ext, List.take_drop]
set_option maxHeartbeats 4000000 in
theorem others_walk (v : Value) (c : Int) (cb : Int) (cm : Bool) (L : List Act7) (w : World) (hL : Acts7 w v L) (hc : -9223372036854775808 <= c /\ c <= 9223372036854775807) :
  Calls Tryz.prog 7 #[v, .int .i64 c, .int .u8 cb, .bool cm] w fun e w' => e = .returned (.bool true) /\ Below w.heap.size w w' := by
 have CS := Lib.hid (shown7_any w)
 have CM : Hid (∀ W, Below w.heap.size w W -> Calls Tryz.prog 11 #[v] W fun e w' => e = .returned (.bool (small7 L)) /\ W = w') := fun W hW => small7_any hL hW
 have HA := Lib.hid hL
 obtain ⟨ao, cap, hv⟩ : ∃ ao cap, v = .slice ao L.length cap := by obtain ⟨_, _, ao, cap, hv, _⟩ := hL; exact ⟨ao, cap, hv⟩
 clear hL
 obtain ⟨n, hn⟩ : ∃ n, L.length = n := ⟨_, rfl⟩
 have HN := Lib.hid hn
 rw [hn] at hv
 clear hn
 subst hv
 have HP9 : Hid (∀ W, Calls Tryz.prog 12 #[.int .i64 c, .int .i64 9] W fun e w' => e = .returned (.int .i64 (pickI c 9)) /\ W = w') := fun W => pick7_any c 9 W hc (by omega)
 obtain ⟨kn, hkn, hk9⟩ : ∃ kn : Nat, pickI c 9 = (kn : Int) /\ kn < 9 := by
  have := pickI_lt c 9 (by omega)
  exact ⟨(pickI c 9).toNat, by omega, by omega⟩
 rw [hkn] at HP9
 clear hkn hc
 have HFl : Hid (∀ W, Calls Tryz.prog 43 #[.int .u8 cb] W fun e w' => e = .returned (.string (fl7 cb)) /\ Below W.heap.size W w') := fun W => full7_any cb W
 have hfs : (fl7 cb).size = 256 := fl7_size cb
 generalize fl7 cb = FL at *
 by_cases hsm : small7 L = true
 ·have hsm' := hsm
  unfold small7 at hsm'
  simp only [decide_eq_true_eq] at hsm'
  obtain ⟨hl80, _⟩ := hsm'
  rw [hsm] at CM
  rw [HN.out] at hl80
  clear hsm
  go_enter Tryz.func7, Tryz.ntmps7
  go_wp2_with fail
  refine CS.out.mono ?_
  rintro e w1 ⟨rfl, HB1⟩
  have CM1 := Lib.hid (CM.out _ HB1.out)
  clear CM CS
  go_wp2_with fail
  refine CM1.out.mono ?_
  rintro e w1' ⟨rfl, rfl⟩
  clear CM1
  have CB := Lib.hid (begin_wx w1)
  go_wp2_with fail
  refine CB.out.mono ?_
  rintro e w2 ⟨wb, mb, s, p, rfl, HL0⟩
  clear CB
  go_wp2_with fail
  go_loopw [14] (fun i wr => ∃ k : Nat, k <= n /\ i = .int .i64 (k : Int) /\ Hid (Lp w1 wr wb s p k)) (fun i _ => n - (intOf i).toNat)
  case atStart => exact ⟨0, Nat.zero_le _, rfl, HL0.out⟩
  case round =>
   obtain ⟨k, hk, rfl, HS⟩ := hrel
   clear HL0
   by_cases hlt : k < n
   ·have hkL : k < L.length := by rw [HN.out]; exact hlt
    obtain ⟨g, off, cap', hv, c0, c1, c2, c3, c4⟩ := HA.out.cell (HB1.out.trans (HS.out.bel.mono HB1.out.size)) k hkL
    obtain ⟨rfl, hnl, rfl⟩ : ao = some ⟨g, off, none⟩ /\ n = L.length /\ cap = cap' := by simpa using hv
    clear hnl hv
    have hop := (HA.out.1 L[k] (List.getElem_mem hkL)).op0
    have HP : Hid (∀ W, Calls Tryz.prog 12 #[.int .i64 L[k].op, .int .i64 11] W fun e w' => e = .returned (.int .i64 (pickI L[k].op 11)) /\ W = w') := fun W => pick7_any L[k].op 11 W hop (by omega)
    have HAk := Lib.hid ((HA.out.1 L[k] (List.getElem_mem hkL)).below HB1.out)
    have CD := Lib.hid (fun (ho : pickI L[k].op 11 < 9) => HS.out.does L[k] HAk.out ho (by omega))
    have HNx := Lib.hid HS.out.next
    clear HAk HS hop
    generalize L[k] = B at *
    obtain ⟨o, ho⟩ : ∃ o, pickI B.op 11 = o := ⟨_, rfl⟩
    rw [ho] at HP CD
    clear ho
    by_cases h9 : o < 9
    ·have CD2 := Lib.hid (CD.out h9)
     clear CD HNx
     go_wp2_with fail
     refine (HP.out _).mono ?_
     rintro e w3 ⟨rfl, rfl⟩
     go_wp2_with fail
     refine CD2.out.mono ?_
     rintro e w3 ⟨x, t, y, rfl, HW3⟩
     clear CD2 c0 c1 c2 c3 c4
     go_wp2
     go_roundw
     case rel => exact ⟨k + 1, by omega, by go_num, HW3.out⟩
     case measure => simp [intOf]; omega
    ·clear CD
     go_wp2_with fail
     refine (HP.out _).mono ?_
     rintro e w3 ⟨rfl, rfl⟩
     go_wp2
     go_roundw
     case rel => exact ⟨k + 1, by omega, by go_num, HNx.out⟩
     case measure => simp [intOf]; omega
   ·obtain ⟨P, N, hx, hN, hn, hlb⟩ := HS.out
    have HK1 : Hid (∀ W N mi (P : TS), Wx w1 W wb s p P N mi -> W.cell? ⟨wb, 1, none⟩ = some (.pointer (some ⟨s, 0, none⟩))) := fun W N mi P h => h.c1
    have HP9b : Hid (∀ W, Calls Tryz.prog 12 #[.int .i64 c, .int .i64 9] W fun e w' => e = .returned (.int .i64 (kn : Int)) /\ Below W.heap.size W w') := fun W => (HP9.out W).mono fun e w' ⟨h1, h2⟩ => ⟨h1, by rw [<- h2]; exact Below.refl _ _⟩
    have CA := Lib.hid hx.abort
    have c1 := hx.c1
    have hop : P.undo.op = false := rfl
    have hn0 : P.undo.n = 132 := hn
    clear hx HS hn hlb
    generalize P.undo = P0 at *
    go_wp2_with fail
    refine CA.out.mono ?_
    rintro e w3 ⟨rfl, HX3⟩
    clear CA c1
    have ok0 := HX3.out.ok
    obtain ⟨P1, y1, y2, y3⟩ := TS.others_math ok0 hop kn FL hfs
    rw [hn0] at y2
    have Y1 := Lib.hid y1
    clear y1 hop hn0 ok0
    have C := Lib.hid (HX3.out.begin_ Y1.out)
    have c1 := HX3.out.c1
    go_wp2_with fail
    refine C.out.mono ?_
    rintro e w4 ⟨rfl, HX4⟩
    clear C c1 HX3
    have e1k : ((1 + kn : Nat) : Int) = 1 + (kn : Int) := by omega
    have w1k : IntKind.i64.wrap (1 + (kn : Int)) = 1 + (kn : Int) := IntWalk.i64_in _ (by omega)
    rw [e1k] at y3
    rcases y3 with y4 | ⟨P2, P3, P4, a, x, m, u, y4⟩
    ·have C := HX4.out.callB (fun X h => h.alloc (1 + (kn : Int)) (by omega) y4)
     have c1 := HX4.out.c1
     have HKB : Hid (∀ W, Below w4.heap.size w4 W -> W.cell? ⟨wb, 1, none⟩ = some (.pointer (some ⟨s, 0, none⟩))) := fun W hW => (HX4.out.below hW).c1
     clear y4
     go_wp2_with fail
     go_region_held3 (fun W : World => W.cell? ⟨wb, 1, none⟩ = some (.pointer (some ⟨s, 0, none⟩)))
      (first | exact c1 | assumption)
      (first
       | (go_at_call 12; refine (HP9b.out _).mono ?_; rintro e w5 ⟨rfl, hb5'⟩; have hb5 : Below w4.heap.size w4 w5 := (by first | exact Fr.below_predrew hb5' | exact hb5'); have hh5 := HKB.out _ hb5)
       | (go_at_call 39; refine (C.out _ hb5).mono ?_; rintro e w6 ⟨rfl, HX6, hh6⟩))
     have HB6 : Hid (Below w.heap.size w w6) := HB1.out.trans (HX6.out.bel.mono HB1.out.size)
     clear HX6
     go_wp2
     go_ret
     exact ⟨rfl, HB6.out⟩
    ·have hlo := y4.lo; have hhi := y4.hi
     rw [y2] at hhi
     have al := y4.al
     rw [e1k] at al
     have C := HX4.out.callB (fun X h => h.alloc (1 + (kn : Int)) (by omega) al)
     clear al
     have c1 := HX4.out.c1
     have HKB : Hid (∀ W, Below w4.heap.size w4 W -> W.cell? ⟨wb, 1, none⟩ = some (.pointer (some ⟨s, 0, none⟩))) := fun W hW => (HX4.out.below hW).c1
     have Y := Lib.hid y4
     clear y4 hlo
     go_wp2_with fail
     go_region_held3 (fun W : World => W.cell? ⟨wb, 1, none⟩ = some (.pointer (some ⟨s, 0, none⟩)))
      (first | exact c1 | assumption)
      (first
       | (go_at_call 12; refine (HP9b.out _).mono ?_; rintro e w5 ⟨rfl, hb5'⟩; have hb5 : Below w4.heap.size w4 w5 := (by first | exact Fr.below_predrew hb5' | exact hb5'); have hh5 := HKB.out _ hb5)
       | (go_at_call 39; refine (C.out _ hb5).mono ?_; rintro e w6 ⟨rfl, HX6, hh6⟩))
     clear C c1 HKB hb5 hh5 hh6 HX4
     obtain ⟨T2, hT2⟩ : ∃ T, P2.stateL = T := ⟨_, rfl⟩
     have C := Lib.hid (HX6.out.state (by omega) hT2)
     have c1 := HX6.out.c1
     go_wp2_with fail
     refine C.out.mono ?_
     rintro e w7 ⟨rfl, HX7⟩
     clear C c1 HX6
     go_wp2_with fail
     refine (HP9.out _).mono ?_
     rintro e w7' ⟨rfl, rfl⟩
     have eak : ((a + kn : Nat) : Int) = (a : Int) + (kn : Int) := by omega
     have yrd := Y.out.rd; have ywr := Y.out.wr; have yrw := Y.out.rw; have yru := Y.out.ru; have yrc := Y.out.rc
     rw [eak] at yrd ywr yrw yru yrc
     have Yrd := Lib.hid yrd; have Ywr := Lib.hid ywr; have Yrw := Lib.hid yrw; have Yru := Lib.hid yru; have Yrc := Lib.hid yrc
     clear yrd ywr yrw yru yrc
     have C := Lib.hid (HX7.out.read ((a : Int) + (kn : Int)) (by omega) (by omega) Yrd.out)
     have c1 := HX7.out.c1
     go_wp2_with fail
     refine C.out.mono ?_
     rintro e w8 ⟨rfl, HX8⟩
     clear C c1 HX7
     have C := HX8.out.callB (fun X h => h.write ((a : Int) + (kn : Int)) (by omega) FL (by unfold maxLen; omega) Ywr.out)
     have c1 := HX8.out.c1
     have HKB : Hid (∀ W, Below w8.heap.size w8 W -> W.cell? ⟨wb, 1, none⟩ = some (.pointer (some ⟨s, 0, none⟩))) := fun W hW => (HX8.out.below hW).c1
     go_wp2_with fail
     go_region_held3 (fun W : World => W.cell? ⟨wb, 1, none⟩ = some (.pointer (some ⟨s, 0, none⟩)))
      (first | exact c1 | assumption)
      (first
       | (go_at_call 43; refine (HFl.out _).mono ?_; rintro e w9 ⟨rfl, hb5'⟩; have hb5 : Below w8.heap.size w8 w9 := (by first | exact Fr.below_predrew hb5' | exact hb5'); have hh5 := HKB.out _ hb5)
       | (go_at_call 42; refine (C.out _ hb5).mono ?_; rintro e w10 ⟨rfl, HX10, hh6⟩))
     clear C c1 HKB hb5 hh5 hh6 HX8
     have C := Lib.hid (HX10.out.read ((a : Int) + (kn : Int)) (by omega) (by omega) Yrw.out)
     have c1 := HX10.out.c1
     go_wp2_with fail
     refine C.out.mono ?_
     rintro e w11 ⟨rfl, HX11⟩
     clear C c1 HX10
     obtain ⟨T3, hT3⟩ : ∃ T, P3.stateL = T := ⟨_, rfl⟩
     have C := Lib.hid (HX11.out.state (by omega) hT3)
     have c1 := HX11.out.c1
     go_wp2_with fail
     refine C.out.mono ?_
     rintro e w12 ⟨rfl, HX12⟩
     clear C c1 HX11
     have h2l : T2.length = 258 * m := by rw [<- hT2]; exact Y.out.lm
     have h3l : T3.length = 258 * m := by rw [<- hT3, Y.out.ln]; exact Y.out.lm
     have hmx := Y.out.mx
     have s2l : (txt T2).size = 258 * m := by rw [txt_size]; exact h2l
     have s3l : (txt T3).size = 258 * m := by rw [txt_size]; exact h3l
     have HNum : Hid (∀ q (h1 : 258 * q < (txt T2).size) (h2 : 258 * q + 1 < (txt T2).size), q < m -> ((txt T2)[258 * q].toNat : Int) + 256 * ((txt T2)[258 * q + 1].toNat : Int) = (u q : Int)) := fun q g1 g2 hq => by
      have := Y.out.nm q hq
      rw [hT2] at this
      have e0 : (T2.drop (258 * q)).getD 0 0 = (txt T2)[258 * q] := by
       have : 258 * q < T2.length := by rw [h2l]; omega
       simp [List.getD, txt, ByteArray.getElem_eq_getElem_data, this]
      have e1 : (T2.drop (258 * q)).getD 1 0 = (txt T2)[258 * q + 1] := by
       have : 258 * q + 1 < T2.length := by rw [h2l]; omega
       simp [List.getD, txt, ByteArray.getElem_eq_getElem_data, this]
      rw [<- e0, <- e1]
      omega
     have HCh : Hid (∀ q, q < m -> u q ≠ a + kn -> (txt T3).extract (258 * q) (258 * q + 258) = (txt T2).extract (258 * q) (258 * q + 258)) := fun q hq hu => by
      have := Y.out.ch q hq hu
      rw [hT2, hT3] at this
      rw [txt_piece, txt_piece, this]
     have HSt4 : Hid (P4.stateL = T3) := Y.out.sc.trans hT3
     clear h2l h3l hT2 hT3
     obtain ⟨TN, hTN⟩ : ∃ T, txt T3 = T := ⟨_, rfl⟩
     have HTN := Lib.hid hTN
     rw [hTN] at s3l HCh
     rw [hTN]
     clear hTN
     generalize txt T2 = TW at *
     have s2a : TW.size <= 258 * m := by omega
     have s2b : 258 * m <= TW.size := by omega
     have s3a : TN.size <= 258 * m := by omega
     have s3b : 258 * m <= TN.size := by omega
     have hsz : ((TN.size : Int) != (TW.size : Int)) = false := by simp; omega
     clear s2l s3l
     go_wp2_with fail
     refine (HFl.out _).mono ?_
     rintro e w13 ⟨rfl, hb13⟩
     have HX13 := Lib.hid (HX12.out.below hb13)
     clear hb13 HX12
     go_wp2_with fail
     go_loopw [25] (fun i wr => ∃ q : Nat, q <= m /\ i = .int .i64 (258 * (q : Int)) /\ Hid (Wx w1 wr wb s p P3 N (k + 4096 + 1 + 1 + 4096))) (fun i _ => 258 * m - (intOf i).toNat)
     case atStart => exact ⟨0, Nat.zero_le _, rfl, HX13.out⟩
     case round =>
      clear HX13
      obtain ⟨q, hq, rfl, HX13⟩ := hrel
      by_cases hqm : q < m
      ·have h1 : 258 * q < TW.size := by omega
       have h2 : 258 * q + 1 < TW.size := by omega
       have hnum := HNum.out q h1 h2 hqm
       have b0 : TW[258 * q].toNat < 256 := UInt8.toNat_lt _
       have b1 : TW[258 * q + 1].toNat < 256 := UInt8.toNat_lt _
       have t0 : (258 * (q : Int)).toNat = 258 * q := by omega
       have t1 : (258 * (q : Int) + 1).toNat = 258 * q + 1 := by omega
       have t2 : (258 * (q : Int) + 258).toNat = 258 * q + 258 := by omega
       have t3 : 0 <= 258 * (q : Int) := by omega
       have t4 : 258 * (q : Int) < (TW.size : Int) := by omega
       have t5 : 0 <= 258 * (q : Int) + 1 := by omega
       have t6 : 258 * (q : Int) + 1 < (TW.size : Int) := by omega
       have t7 : 258 * (q : Int) <= 258 * (q : Int) + 258 := by omega
       have t8 : 258 * (q : Int) + 258 <= (TW.size : Int) := by omega
       have t9 : 258 * (q : Int) + 258 <= (TN.size : Int) := by omega
       have HCq := Lib.hid (HCh.out q hqm)
       have hub : (u q : Int) < 65792 := by omega
       generalize u q = uq at *
       by_cases hu : uq = a + kn
       ·have hk : (TW[258 * q].toNat : Int) + 256 * (TW[258 * q + 1].toNat : Int) = (a : Int) + (kn : Int) := by omega
        clear hnum hu hub HCq
        go_wp2
        go_region
        go_wp2
        go_region
        go_wp2
        go_roundw
        case rel => exact ⟨q + 1, by omega, by go_num, HX13.out.below ((Below.refl _ _).drew.drew)⟩
        case measure => simp [intOf]; omega
       ·have hk4 : ¬ ((uq : Int) = (a : Int) + (kn : Int)) := by omega
        have hk : ((uq : Int) != (a : Int) + (kn : Int)) = true := by simpa using hk4
        have hk3 : ((uq : Int) == (a : Int) + (kn : Int)) = false := by simpa using hk4
        clear hk4
        have hex := HCq.out hu
        clear hu HCq
        go_wp2
        go_region
        go_wp2
        go_region
        go_wp2
        go_roundw
        case rel => exact ⟨q + 1, by omega, by go_num, HX13.out.below ((Below.refl _ _).drew.drew)⟩
        case measure => simp [intOf]; omega
      ·obtain rfl : q = m := by omega
       cases cm
       ·-- not committed
        have CA := Lib.hid HX13.out.abort
        have c1 := HX13.out.c1
        go_wp2_with fail
        refine CA.out.mono ?_
        rintro e w14 ⟨rfl, HX14⟩
        clear CA c1
        have C := Lib.hid (HX14.out.read ((a : Int) + (kn : Int)) (by omega) (by omega) Yru.out)
        have c1 := HX14.out.c1
        go_wp2_with fail
        refine C.out.mono ?_
        rintro e w15 ⟨rfl, HX15⟩
        have HB15 : Hid (Below w.heap.size w w15) := HB1.out.trans (HX15.out.bel.mono HB1.out.size)
        clear C c1 HX14 HX15
        go_wp2
        go_ret
        exact ⟨rfl, HB15.out⟩
       ·have C := Lib.hid (HX13.out.commit (by omega) Y.out.co)
        have c1 := HX13.out.c1
        go_wp2_with fail
        refine C.out.mono ?_
        rintro e w14 ⟨rfl, N2, hN2, HX14⟩
        clear C c1 HX13
        have C := Lib.hid (HX14.out.read ((a : Int) + (kn : Int)) (by omega) (by omega) Yrc.out)
        have c1 := HX14.out.c1
        go_wp2_with fail
        refine C.out.mono ?_
        rintro e w15 ⟨rfl, HX15⟩
        clear C c1 HX14
        have C := HX15.out.callB (fun X h => h.state (by omega) HSt4.out)
        rw [HTN.out] at C
        have c1 := HX15.out.c1
        have HKB : Hid (∀ W, Below w15.heap.size w15 W -> W.cell? ⟨wb, 1, none⟩ = some (.pointer (some ⟨s, 0, none⟩))) := fun W hW => (HX15.out.below hW).c1
        go_wp2_with fail
        refine (HFl.out _).mono ?_
        rintro e w16 ⟨rfl, hb16⟩
        have c1 := HKB.out _ hb16
        have C2 := Lib.hid (C.out _ hb16)
        clear hb16 C
        go_wp2_with fail
        refine C2.out.mono ?_
        rintro e w17 ⟨rfl, HX17, hh6⟩
        have HB17 : Hid (Below w.heap.size w w17) := HB1.out.trans (HX17.out.bel.mono HB1.out.size)
        clear HX17
        go_wp2
        go_ret
        exact ⟨rfl, HB17.out⟩
 ·have hsm' : small7 L = false := by simpa using hsm
  rw [hsm'] at CM
  clear hsm hsm' HA
  go_enter Tryz.func7, Tryz.ntmps7
  go_wp2_with fail
  refine CS.out.mono ?_
  rintro e w1 ⟨rfl, HB1⟩
  have CM1 := Lib.hid (CM.out _ HB1.out)
  clear CM CS
  go_wp2_with fail
  refine CM1.out.mono ?_
  rintro e w1' ⟨rfl, rfl⟩
  clear CM1
  go_wp2
  go_ret
  exact ⟨rfl, HB1.out⟩
end Go.Proofs.YthambopnmhkeeaaGreat
