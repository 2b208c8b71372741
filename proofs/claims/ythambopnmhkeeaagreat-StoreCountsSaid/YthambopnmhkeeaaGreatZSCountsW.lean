/- StoreCounts: the walk: free and used blocks are all data blocks; what was released is free; aborted, all is as it was. -/
import Derived.Test.YthambopnmhkeeaaGreatZXBegin
import Derived.Deep.RegionHeld3

set_option maxRecDepth 100000
namespace Go.Proofs.YthambopnmhkeeaaGreat
open Go.RowKit
set_option maxHeartbeats 4000000 in
theorem counts_walk (v : Value) (c : Int) (L : List Act7) (w : World) (hL : Acts7 w v L) (hc : -9223372036854775808 <= c /\ c <= 9223372036854775807) :
  Calls Tryz.prog 6 #[v, .int .i64 c] w fun e w' => e = .returned (.bool true) /\ Below w.heap.size w w' := by
 have CS := Lib.hid (shown7_any w)
 have CM : Hid (∀ W, Below w.heap.size w W -> Calls Tryz.prog 11 #[v] W fun e w' => e = .returned (.bool (small7 L)) /\ W = w') := fun W hW => small7_any hL hW
 have HA := Lib.hid hL
 obtain ⟨ao, cap, hv⟩ : ∃ ao cap, v = .slice ao L.length cap := by obtain ⟨_, _, ao, cap, hv, _⟩ := hL; exact ⟨ao, cap, hv⟩
 clear hL
 obtain ⟨n, hn⟩ : ∃ n, L.length = n := ⟨_, rfl⟩
 have HN := Lib.hid hn
 rw [hn] at hv
 clear hn
 subst hv
 have HP20 : Hid (∀ W, Calls Tryz.prog 12 #[.int .i64 c, .int .i64 20] W fun e w' => e = .returned (.int .i64 (pickI c 20)) /\ W = w') := fun W => pick7_any c 20 W hc (by omega)
 obtain ⟨kn, hkn, hk20⟩ : ∃ kn : Nat, pickI c 20 = (kn : Int) /\ kn < 20 := by
  have := pickI_lt c 20 (by omega)
  exact ⟨(pickI c 20).toNat, by omega, by omega⟩
 rw [hkn] at HP20
 clear hkn hc
 by_cases hsm : small7 L = true
 ·have hsm' := hsm
  unfold small7 at hsm'
  simp only [decide_eq_true_eq] at hsm'
  obtain ⟨hl80, _⟩ := hsm'
  rw [hsm] at CM
  rw [HN.out] at hl80
  clear hsm
  go_enter Tryz.func6, Tryz.ntmps6
  go_wp2_with fail
  refine CS.out.mono ?_
  rintro e w1 ⟨rfl, HB1⟩
  have CM1 := Lib.hid (CM.out _ HB1.out)
  clear CM CS
  go_wp2_with fail
  refine CM1.out.mono ?_
  rintro e w1' ⟨rfl, rfl⟩
  clear CM1
  have CB := Lib.hid (begin_wx w1)
  go_wp2_with fail
  refine CB.out.mono ?_
  rintro e w2 ⟨wb, mb, s, p, rfl, HL0⟩
  clear CB
  go_wp2_with fail
  go_loopw [10] (fun i wr => ∃ k : Nat, k <= n /\ i = .int .i64 (k : Int) /\ Hid (Lp w1 wr wb s p k)) (fun i _ => n - (intOf i).toNat)
  case atStart => exact ⟨0, Nat.zero_le _, rfl, HL0.out⟩
  case round =>
   obtain ⟨k, hk, rfl, HS⟩ := hrel
   clear HL0
   by_cases hlt : k < n
   ·have hkL : k < L.length := by rw [HN.out]; exact hlt
    obtain ⟨g, off, cap', hv, c0, c1, c2, c3, c4⟩ := HA.out.cell (HB1.out.trans (HS.out.bel.mono HB1.out.size)) k hkL
    obtain ⟨rfl, hnl, rfl⟩ : ao = some ⟨g, off, none⟩ /\ n = L.length /\ cap = cap' := by simpa using hv
    clear hnl hv
    have hop := (HA.out.1 L[k] (List.getElem_mem hkL)).op0
    have HP : Hid (∀ W, Calls Tryz.prog 12 #[.int .i64 L[k].op, .int .i64 11] W fun e w' => e = .returned (.int .i64 (pickI L[k].op 11)) /\ W = w') := fun W => pick7_any L[k].op 11 W hop (by omega)
    have HAk := Lib.hid ((HA.out.1 L[k] (List.getElem_mem hkL)).below HB1.out)
    have CD := Lib.hid (fun (ho : pickI L[k].op 11 < 9) => HS.out.does L[k] HAk.out ho (by omega))
    have HNx := Lib.hid HS.out.next
    clear HAk HS hop
    generalize L[k] = B at *
    obtain ⟨o, ho⟩ : ∃ o, pickI B.op 11 = o := ⟨_, rfl⟩
    rw [ho] at HP CD
    clear ho
    by_cases h9 : o < 9
    ·have CD2 := Lib.hid (CD.out h9)
     clear CD HNx
     go_wp2_with fail
     refine (HP.out _).mono ?_
     rintro e w3 ⟨rfl, rfl⟩
     go_wp2_with fail
     refine CD2.out.mono ?_
     rintro e w3 ⟨x, t, y, rfl, HW3⟩
     clear CD2 c0 c1 c2 c3 c4
     go_wp2
     go_roundw
     case rel => exact ⟨k + 1, by omega, by go_num, HW3.out⟩
     case measure => simp [intOf]; omega
    ·clear CD
     go_wp2_with fail
     refine (HP.out _).mono ?_
     rintro e w3 ⟨rfl, rfl⟩
     go_wp2
     go_roundw
     case rel => exact ⟨k + 1, by omega, by go_num, HNx.out⟩
     case measure => simp [intOf]; omega
   ·obtain ⟨P, N, hx, hN, hn, hlb⟩ := HS.out
    have CA := Lib.hid hx.abort
    have c1 := hx.c1
    have hop : P.undo.op = false := rfl
    have hn0 : P.undo.n = 132 := hn
    clear hx HS hn hlb
    generalize P.undo = P0 at *
    go_wp2_with fail
    refine CA.out.mono ?_
    rintro e w3 ⟨rfl, HX3⟩
    clear CA c1
    have ok0 := HX3.out.ok
    obtain ⟨T, hT⟩ : ∃ T, P0.stateL = T := ⟨_, rfl⟩
    obtain ⟨P1, y1, y2, y3⟩ := TS.counts_math ok0 hop kn
    have htot := ok0.used_tot
    have hrlen := runs_len ok0
    rw [hn0] at hrlen
    rw [TS.tot_blocks] at htot
    have CSt := Lib.hid (HX3.out.state (by omega) hT)
    have c1 := HX3.out.c1
    rw [hT] at y3
    rw [hn0] at htot
    rw [show 132 - firstD 132 = 68 from by decide] at htot
    go_wp2_with fail
    refine CSt.out.mono ?_
    rintro e w4 ⟨rfl, HX4⟩
    clear CSt c1 HX3
    have CU := Lib.hid HX4.out.used
    rw [hn0] at CU
    have c1 := HX4.out.c1
    go_wp2_with fail
    refine CU.out.mono ?_
    rintro e w5 ⟨u, rfl, HO, HX5⟩
    clear CU c1 HX4
    have c1 := HX5.out.c1
    have CF := HX5.out.callB (fun X h => h.free)
    have CFi : Hid (∀ X, Wx w1 X wb s p P0 N (k + 4096) -> Calls Tryz.prog 32 #[.pointer (some ⟨s, 0, none⟩)] X fun e w' => e = .returned (.int .i64 64) /\ Hid (Wx w1 w' wb s p P0 N (k + 4096)) /\ w'.cell? ⟨wb, 1, none⟩ = some (.pointer (some ⟨s, 0, none⟩))) := fun X h => by
     have := h.firstH
     rw [hn0, show firstD 132 = 64 from by decide] at this
     exact this.mono fun e w' ⟨he, hl⟩ => ⟨he, hl, hl.out.c1⟩
    rw [hn0] at CF
    rw [hn0] at y2 y3
    have Y1 := Lib.hid y1
    clear y1 ok0 hT
    obtain ⟨F, hF⟩ : ∃ F, Bm.fr P0.bits 132 = F := ⟨_, rfl⟩
    rw [hF] at CF htot y2 y3
    have Y2 := Lib.hid y2
    obtain ⟨R, hR⟩ : ∃ R, Bm.rs (Bm.stL (turnB P0.bits) 0 true (firstD 132)) 132 = R := ⟨_, rfl⟩
    rw [hR] at HO htot hrlen
    clear hF hR hn0 hop y2
    obtain ⟨rl, hrl⟩ : ∃ rl, R.length = rl := ⟨_, rfl⟩
    have HRL := Lib.hid hrl
    have htot2 : cntR R + F = 68 := htot
    have HCR : Hid (∀ q, cntR (R.take q) <= 68) := fun q => by have := cntR_le R q; omega
    obtain ⟨uo, uc, hu⟩ := HO.out.form
    subst hu
    rw [hrl] at HO hrlen
    rw [hrl]
    clear hrl htot
    go_wp2_with fail
    go_loopw [13, 15] (fun mv i wr => ∃ q : Nat, q <= rl /\ mv = .int .i64 (cntR (R.take q) : Nat) /\ i = .int .i64 (q : Int) /\ wr = w5) (fun _ i _ => rl - (intOf i).toNat)
    case atStart => exact ⟨0, Nat.zero_le _, rfl, rfl, rfl⟩
    case round =>
     obtain ⟨q, hq, rfl, rfl, rfl⟩ := hrel
     by_cases hql : q < rl
     ·have hqR : q < R.length := by rw [HRL.out]; exact hql
      obtain ⟨g, hg⟩ : ∃ g, uo = some ⟨g, 0, none⟩ := by
       obtain ⟨g, c, e, _⟩ := HO.out.here (by omega)
       simp at e
       exact ⟨g, e.1⟩
      subst hg
      obtain ⟨c2, c3⟩ := exts_cell (by have := HO.out; rw [<- HRL.out] at this; exact this) hqR
      have HSA := Lib.hid (cntR_succ R q hqR)
      have hb1 := HCR.out (q + 1)
      rw [HSA.out] at hb1
      clear htot2
      generalize cntR (R.take q) = m at *
      generalize R[q] = x at *
      obtain ⟨a, cc⟩ := x
      dsimp only at *
      go_wp2
      go_roundw
      case rel => exact ⟨q + 1, by omega, by rw [HSA.out]; go_num, by go_num, by first | rfl | trivial⟩
      case measure => simp [intOf]; omega
     ·obtain rfl : q = rl := by omega
      have hRt : R.take q = R := by rw [<- HRL.out]; exact List.take_length
      rw [hRt]
      clear hRt HCR HO HRL
      generalize cntR R = m at *
      have hm : m <= 68 := by omega
      have hFm : F <= 68 := by omega
      have hmf : (m : Int) + (F : Int) = 68 := by omega
      have hne1 : 0 <= (m : Int) := by omega
      clear htot2
      go_wp2_with fail
      go_region_held3 (fun W : World => W.cell? ⟨wb, 1, none⟩ = some (.pointer (some ⟨s, 0, none⟩)))
       (first | exact c1 | assumption)
       (first
        | (go_at_call 17; refine (CF.out _ ((Below.refl _ _).drew)).mono ?_; rintro e w6 ⟨rfl, HX6, hh6⟩)
        | (go_at_call 32; refine (CFi.out _ HX6.out).mono ?_; rintro e w7 ⟨rfl, HX7, hh7⟩)
        | (go_at_call 38; refine ((HX7.out.callB (fun X h => h.begin_ Y1.out)).out _ (Below.refl _ _)).mono ?_; rintro e w8 ⟨rfl, HX8, hh8⟩))
      clear c1 CF CFi hh6 hh7 hh8 HX6 HX7 HX5 hmf hne1
      go_wp2_with fail
      refine (HP20.out _).mono ?_
      rintro e w8' ⟨rfl, rfl⟩
      have C := Lib.hid HX8.out.free
      rw [Y2.out] at C
      have c1 := HX8.out.c1
      go_wp2_with fail
      refine C.out.mono ?_
      rintro e w9 ⟨rfl, HX9⟩
      clear C c1 HX8
      rcases y3 with ⟨a, e1, P2, z1, z2, z3⟩ | ⟨a, P2, P3, a', e1, P4, z1, z2, z3, z4, z5, z6, z7⟩
      ·rw [show ((1 + kn : Nat) : Int) = 1 + (kn : Int) by omega] at z1
       have C := Lib.hid (HX9.out.alloc (1 + (kn : Int)) (by omega) z1)
       have c1 := HX9.out.c1
       have Z2 := Lib.hid z2; have Z3 := Lib.hid z3
       clear z1 z2 z3
       go_wp2_with fail
       refine C.out.mono ?_
       rintro e w10 ⟨rfl, HX10⟩
       clear C c1 HX9
       have C := Lib.hid (HX10.out.alloc 1 (by omega) Z2.out)
       have c1 := HX10.out.c1
       go_wp2_with fail
       refine C.out.mono ?_
       rintro e w11 ⟨rfl, HX11⟩
       clear C c1 HX10
       have C := Lib.hid HX11.out.abort
       have c1 := HX11.out.c1
       go_wp2_with fail
       refine C.out.mono ?_
       rintro e w12 ⟨rfl, HX12⟩
       clear C c1 HX11
       have C := Lib.hid (HX12.out.state (by omega) Z3.out)
       have c1 := HX12.out.c1
       go_wp2_with fail
       refine C.out.mono ?_
       rintro e w13 ⟨rfl, HX13⟩
       have HB13 : Hid (Below w.heap.size w w13) := HB1.out.trans (HX13.out.bel.mono HB1.out.size)
       clear C c1 HX12 HX13
       go_wp2
       go_ret
       exact ⟨rfl, HB13.out⟩
      ·rw [show ((1 + kn : Nat) : Int) = 1 + (kn : Int) by omega] at z1 z3
       have C := Lib.hid (HX9.out.alloc (1 + (kn : Int)) (by omega) z1)
       have c1 := HX9.out.c1
       have Z3 := Lib.hid z3; have Z4 := Lib.hid z4; have Z6 := Lib.hid z6; have Z7 := Lib.hid z7
       clear z1 z3 z4 z6 z7
       go_wp2_with fail
       refine C.out.mono ?_
       rintro e w10 ⟨rfl, HX10⟩
       clear C c1 HX9
       have c1 := HX10.out.c1
       obtain ⟨F2, hF2⟩ : ∃ F2, Bm.fr P2.bits P2.n = F2 := ⟨_, rfl⟩
       have CF := HX10.out.callB (fun X h => h.free)
       rw [hF2] at CF z2
       have hne2 : (F : Int) - (1 + (kn : Int)) = (F2 : Int) := by omega
       have hne3 : 0 <= (F2 : Int) := by omega
       clear hF2 z2
       go_wp2_with fail
       refine (CF.out _ (Below.refl _ _)).mono ?_
       rintro e w11 ⟨rfl, HX11, hh11⟩
       clear CF c1
       have C := Lib.hid (HX11.out.release (a : Int) (1 + (kn : Int)) (by omega) (by omega) Z3.out)
       go_wp2_with fail
       refine C.out.mono ?_
       rintro e w12 ⟨rfl, HX12⟩
       clear C hh11
       have C := Lib.hid HX12.out.free
       rw [Z4.out] at C
       have c1 := HX12.out.c1
       go_wp2_with fail
       refine C.out.mono ?_
       rintro e w13 ⟨rfl, HX13⟩
       clear C
       clear c1 HX10 HX11 HX12
       have C := Lib.hid (HX13.out.alloc 1 (by omega) Z6.out)
       have c1 := HX13.out.c1
       go_wp2_with fail
       refine C.out.mono ?_
       rintro e w14 ⟨rfl, HX14⟩
       clear C c1 HX13
       have C := Lib.hid HX14.out.abort
       have c1 := HX14.out.c1
       go_wp2_with fail
       refine C.out.mono ?_
       rintro e w15 ⟨rfl, HX15⟩
       clear C c1 HX14
       have C := Lib.hid (HX15.out.state (by omega) Z7.out)
       have c1 := HX15.out.c1
       go_wp2_with fail
       refine C.out.mono ?_
       rintro e w16 ⟨rfl, HX16⟩
       have HB16 : Hid (Below w.heap.size w w16) := HB1.out.trans (HX16.out.bel.mono HB1.out.size)
       clear C c1 HX15 HX16
       go_wp2
       go_ret
       exact ⟨rfl, HB16.out⟩
 ·have hsm' : small7 L = false := by simpa using hsm
  rw [hsm'] at CM
  clear hsm hsm' HA
  go_enter Tryz.func6, Tryz.ntmps6
  go_wp2_with fail
  refine CS.out.mono ?_
  rintro e w1 ⟨rfl, HB1⟩
  have CM1 := Lib.hid (CM.out _ HB1.out)
  clear CM CS
  go_wp2_with fail
  refine CM1.out.mono ?_
  rintro e w1' ⟨rfl, rfl⟩
  clear CM1
  go_wp2
  go_ret
  exact ⟨rfl, HB1.out⟩
end Go.Proofs.YthambopnmhkeeaaGreat
