/- StoreStates: the walk: what needs a transaction is refused without one, a second one is refused, and that changes nothing. -/
import Derived.Test.YthambopnmhkeeaaGreatZXBegin
import Derived.Deep.RegionHeld3

set_option maxRecDepth 100000
namespace Go.Proofs.YthambopnmhkeeaaGreat
open Go.RowKit
set_option maxHeartbeats 4000000 in
theorem states_walk (v : Value) (A : Act7) (L : List Act7) (w : World) (hL : Acts7 w v L) (hA : A.Ok w) :
  Calls Tryz.prog 9 #[v, A.agg] w fun e w' => e = .returned (.bool true) /\ Below w.heap.size w w' := by
 obtain ⟨X, hX⟩ : ∃ X, w.alloc (.cells #[.int .i64 A.op, .int .i64 A.at_, .int .i64 A.n, .slice A.kao A.keep.length A.kcap, .int .u8 A.b] 35) = X := ⟨_, rfl⟩
 have hbX : Below w.heap.size w X := by rw [<- hX]; exact (Below.refl _ _).alloc (Nat.le_refl _) _
 have hxc : X.heap[w.heap.size]? = some (.cells A.cells.toArray 35 (0, 0)) := by rw [<- hX, heap_alloc_new]; rfl
 have CS := Lib.hid (shown7_any X)
 have CM : Hid (∀ W, Below w.heap.size w W -> Calls Tryz.prog 11 #[v] W fun e w' => e = .returned (.bool (small7 L)) /\ W = w') := fun W hW => small7_any hL hW
 have HA := Lib.hid hL
 have HX := Lib.hid hX; have HBX := Lib.hid hbX
 clear hX hbX
 obtain ⟨b, hb⟩ : ∃ b, w.heap.size = b := ⟨_, rfl⟩
 rw [hb] at hxc
 have HE := Lib.hid hb
 have HXC := Lib.hid hxc
 clear hb hxc
 obtain ⟨ao, cap, hv⟩ : ∃ ao cap, v = .slice ao L.length cap := by obtain ⟨_, _, ao, cap, hv, _⟩ := hL; exact ⟨ao, cap, hv⟩
 clear hL
 obtain ⟨n, hn⟩ : ∃ n, L.length = n := ⟨_, rfl⟩
 have HN := Lib.hid hn
 rw [hn] at hv
 clear hn
 subst hv
 have HAt : Hid (∀ W, Calls Tryz.prog 45 #[.agg #[.int .i64 A.op, .int .i64 A.at_, .int .i64 A.n, .slice A.kao A.keep.length A.kcap, .int .u8 A.b]] W fun e w' => e = .returned (.int .i64 (at7 A.at_)) /\ Below W.heap.size W w') := fun W => at7_any A W hA.at0
 have HDa : Hid (∀ W, Calls Tryz.prog 46 #[.agg #[.int .i64 A.op, .int .i64 A.at_, .int .i64 A.n, .slice A.kao A.keep.length A.kcap, .int .u8 A.b]] W fun e w' => e = .returned (.string (data7 A.n A.b)) /\ Below W.heap.size W w') := fun W => data7_any A W
 have hat := at7_int hA.at0
 have hdz : (data7 A.n A.b).size <= maxLen := by
  unfold data7
  split
  ·exact by decide
  ·rw [fl7_size]; decide
 have hn0 := hA.n0
 clear hA
 by_cases hg : small7 L = true /\ A.keep.length <= 200
 ·obtain ⟨hsm, hk200⟩ := hg
  have hsm' := hsm
  unfold small7 at hsm'
  simp only [decide_eq_true_eq] at hsm'
  obtain ⟨hl80, _⟩ := hsm'
  rw [hsm] at CM
  rw [HN.out] at hl80
  clear hsm
  have g1 : decide ((200 : Int) < (A.keep.length : Int)) = false := decide_eq_false (by omega)
  go_enter Tryz.func9, Tryz.ntmps9
  go_wp2_with fail
  rw [HX.out, HE.out]
  refine CS.out.mono ?_
  rintro e w1 ⟨rfl, hb1⟩
  have HB1 : Hid (Below w.heap.size w w1) := HBX.out.trans (hb1.out.mono HBX.out.size)
  have HXC1 : Hid (w1.heap[b]? = some (.cells A.cells.toArray 35 (0, 0))) := by
   show _ = _
   rw [hb1.out.block b (Array.getElem?_eq_some_iff.1 HXC.out).1]; exact HXC.out
  have k3 : w1.cell? ⟨b, 3, none⟩ = some (.slice A.kao A.keep.length A.kcap) := by rw [cell_at HXC1.out]; rfl
  have CM1 := Lib.hid (CM.out _ HB1.out)
  clear hb1 CM CS HXC HX HBX
  go_wp2_with fail
  refine CM1.out.mono ?_
  rintro e w1' ⟨rfl, rfl⟩
  clear CM1
  have CB := Lib.hid (begin_wx w1)
  go_wp2_with fail
  refine CB.out.mono ?_
  rintro e w2 ⟨wb, mb, s, p, rfl, HL0⟩
  clear CB k3
  go_wp2_with fail
  go_loopw [10] (fun i wr => ∃ k : Nat, k <= n /\ i = .int .i64 (k : Int) /\ Hid (Lp w1 wr wb s p k)) (fun i _ => n - (intOf i).toNat)
  case atStart => exact ⟨0, Nat.zero_le _, rfl, HL0.out⟩
  case round =>
   obtain ⟨k, hk, rfl, HS⟩ := hrel
   clear HL0
   by_cases hlt : k < n
   ·have hkL : k < L.length := by rw [HN.out]; exact hlt
    obtain ⟨g, off, cap', hv, c0, c1, c2, c3, c4⟩ := HA.out.cell (HB1.out.trans (HS.out.bel.mono HB1.out.size)) k hkL
    obtain ⟨rfl, hnl, rfl⟩ : ao = some ⟨g, off, none⟩ /\ n = L.length /\ cap = cap' := by simpa using hv
    clear hnl hv
    have hop := (HA.out.1 L[k] (List.getElem_mem hkL)).op0
    have HP : Hid (∀ W, Calls Tryz.prog 12 #[.int .i64 L[k].op, .int .i64 11] W fun e w' => e = .returned (.int .i64 (pickI L[k].op 11)) /\ W = w') := fun W => pick7_any L[k].op 11 W hop (by omega)
    have HAk := Lib.hid ((HA.out.1 L[k] (List.getElem_mem hkL)).below HB1.out)
    have CD := Lib.hid (fun (ho : pickI L[k].op 11 < 9) => HS.out.does L[k] HAk.out ho (by omega))
    have HNx := Lib.hid HS.out.next
    clear HAk HS hop
    generalize L[k] = B at *
    obtain ⟨o, ho⟩ : ∃ o, pickI B.op 11 = o := ⟨_, rfl⟩
    rw [ho] at HP CD
    clear ho
    by_cases h9 : o < 9
    ·have CD2 := Lib.hid (CD.out h9)
     clear CD HNx
     go_wp2_with fail
     refine (HP.out _).mono ?_
     rintro e w3 ⟨rfl, rfl⟩
     go_wp2_with fail
     refine CD2.out.mono ?_
     rintro e w3 ⟨x, t, y, rfl, HW3⟩
     clear CD2 c0 c1 c2 c3 c4
     go_wp2
     go_roundw
     case rel => exact ⟨k + 1, by omega, by go_num, HW3.out⟩
     case measure => simp [intOf]; omega
    ·clear CD
     go_wp2_with fail
     refine (HP.out _).mono ?_
     rintro e w3 ⟨rfl, rfl⟩
     go_wp2
     go_roundw
     case rel => exact ⟨k + 1, by omega, by go_num, HNx.out⟩
     case measure => simp [intOf]; omega
   ·obtain ⟨P, N, hx, hN, hn, hlb⟩ := HS.out
    have CA := Lib.hid hx.abort
    have HK : Hid (∀ W P N mi, Wx w1 W wb s p P N mi -> HeldW wb s p b A W) := fun W P N mi h => h.heldW HXC1.out
    have c1 := hx.c1
    have hop : P.undo.op = false := rfl
    clear hx HS hn hlb
    generalize P.undo = P0 at *
    obtain ⟨T, hT⟩ : ∃ T, P0.stateL = T := ⟨_, rfl⟩
    obtain ⟨x1, x2, x3, x4, x5, x6, x7, x8⟩ := TS.states hop A.n (at7 A.at_) (data7 A.n A.b)
    have HT := Lib.hid hT
    have Hx1 := Lib.hid x1; have Hx2 := Lib.hid x2; have Hx3 := Lib.hid x3; have Hx4 := Lib.hid x4; have Hx5 := Lib.hid x5; have Hx6 := Lib.hid x6
    obtain ⟨P1, hP1⟩ : ∃ P1 : TS, { P0 with op := true } = P1 := ⟨_, rfl⟩
    rw [hP1] at Hx5 Hx6 x7 x8
    obtain ⟨P2, hP2⟩ : ∃ P2, P1.commit = (0, P2) := ⟨P1.commit.2, by rw [<- x7]⟩
    rw [hP2] at x8
    have Hx7 := Lib.hid hP2
    have HT2 := Lib.hid (x8.trans hT)
    clear x1 x2 x3 x4 x5 x6 x7 x8 hT hP1 hP2 hop
    go_wp2_with fail
    refine CA.out.mono ?_
    rintro e w3 ⟨rfl, HX3⟩
    clear CA c1
    have CSt := Lib.hid (HX3.out.state (by omega) HT.out)
    have c1 := HX3.out.c1
    go_wp2_with fail
    refine CSt.out.mono ?_
    rintro e w4 ⟨rfl, HX4⟩
    clear CSt c1 HX3
    have C := HX4.out.callH HXC1.out (fun X h => h.alloc A.n hn0 Hx1.out)
    obtain ⟨c0, c1, k0, k1, k2, k3, k4⟩ := HK.out _ _ _ _ HX4.out
    go_wp2_with fail
    go_region_held3 (HeldW wb s p b A)
     (first | exact ⟨c0, c1, k0, k1, k2, k3, k4⟩ | assumption)
     (first
      | (go_at_call 39; refine (C.out _ ((Below.refl _ _).drew)).mono ?_; rintro e w5 ⟨rfl, HX5, hh5⟩))
    clear C c0 c1 k0 k1 k2 k3 k4 hh5 HX4
    have C := HX5.out.callH HXC1.out (fun X h => h.write (at7 A.at_) hat _ hdz Hx2.out)
    have HKB : Hid (∀ W, Below w5.heap.size w5 W -> HeldW wb s p b A W) := fun W hW => HK.out _ _ _ _ (HX5.out.below hW)
    obtain ⟨c0, c1, k0, k1, k2, k3, k4⟩ := HK.out _ _ _ _ HX5.out
    go_wp2_with fail
    go_region_held3 (HeldW wb s p b A)
     (first | exact ⟨c0, c1, k0, k1, k2, k3, k4⟩ | assumption)
     (first
      | (go_at_call 45; refine (HAt.out _).mono ?_; rintro e w6 ⟨rfl, hb2'⟩; have hb2 : Below w5.heap.size w5 w6 := (by first | exact Fr.below_predrew hb2' | exact hb2'); have hh2 := HKB.out _ hb2)
      | (go_at_call 46; refine (HDa.out _).mono ?_; rintro e w7 ⟨rfl, hb3'⟩; have hb3 : Below w5.heap.size w5 w7 := hb2.trans (hb3'.mono hb2.size); have hh3 := HKB.out _ hb3)
      | (go_at_call 42; refine (C.out _ hb3).mono ?_; rintro e w8 ⟨rfl, HX8, hh8⟩))
    clear C c0 c1 k0 k1 k2 k3 k4 hh8 HX5 HKB hb2 hb3 hh2 hh3
    have C := HX8.out.callH HXC1.out (fun X h => h.release (at7 A.at_) A.n hat hn0 Hx3.out)
    have HKB : Hid (∀ W, Below w8.heap.size w8 W -> HeldW wb s p b A W) := fun W hW => HK.out _ _ _ _ (HX8.out.below hW)
    obtain ⟨c0, c1, k0, k1, k2, k3, k4⟩ := HK.out _ _ _ _ HX8.out
    go_wp2_with fail
    go_region_held3 (HeldW wb s p b A)
     (first | exact ⟨c0, c1, k0, k1, k2, k3, k4⟩ | assumption)
     (first
      | (go_at_call 45; refine (HAt.out _).mono ?_; rintro e w9 ⟨rfl, hb2'⟩; have hb2 : Below w8.heap.size w8 w9 := (by first | exact Fr.below_predrew hb2' | exact hb2'); have hh2 := HKB.out _ hb2)
      | (go_at_call 40; refine (C.out _ hb2).mono ?_; rintro e w10 ⟨rfl, HX10, hh10⟩))
    clear C c0 c1 k0 k1 k2 k3 k4 hh10 HX8 HKB
    have C := Lib.hid (HX10.out.commit (by omega) Hx4.out)
    have c1 := HX10.out.c1
    go_wp2_with fail
    refine C.out.mono ?_
    rintro e w11 ⟨rfl, N2, hN2, HX11⟩
    clear C c1 HX10
    have C := Lib.hid (HX11.out.state (by omega) HT.out)
    have c1 := HX11.out.c1
    go_wp2_with fail
    refine C.out.mono ?_
    rintro e w12 ⟨rfl, HX12⟩
    clear C c1 HX11
    have C := Lib.hid (HX12.out.begin_ Hx5.out)
    have c1 := HX12.out.c1
    go_wp2_with fail
    refine C.out.mono ?_
    rintro e w13 ⟨rfl, HX13⟩
    clear C c1 HX12
    have C := Lib.hid (HX13.out.begin_ Hx6.out)
    have c1 := HX13.out.c1
    go_wp2_with fail
    refine C.out.mono ?_
    rintro e w14 ⟨rfl, HX14⟩
    clear C c1 HX13
    have C := Lib.hid (HX14.out.commit (by omega) Hx7.out)
    have c1 := HX14.out.c1
    go_wp2_with fail
    refine C.out.mono ?_
    rintro e w15 ⟨rfl, N3, hN3, HX15⟩
    clear C c1 HX14
    have C := Lib.hid (HX15.out.state (by omega) HT2.out)
    have c1 := HX15.out.c1
    go_wp2_with fail
    refine C.out.mono ?_
    rintro e w16 ⟨rfl, HX16⟩
    clear C c1 HX15
    have HB16 : Hid (Below w.heap.size w w16) := HB1.out.trans (HX16.out.bel.mono HB1.out.size)
    clear HX16
    go_wp2
    go_ret
    exact ⟨rfl, by first | exact HB16.out | (rw [<- HE.out]; exact HB16.out)⟩
 ·by_cases hsm : small7 L = true
  ·have hk200 : 200 < A.keep.length := Nat.lt_of_not_le fun h => hg ⟨hsm, h⟩
   rw [hsm] at CM
   clear hsm hg HA HAt HDa
   have g1 : decide ((200 : Int) < (A.keep.length : Int)) = true := decide_eq_true (by omega)
   go_enter Tryz.func9, Tryz.ntmps9
   go_wp2_with fail
   rw [HX.out, HE.out]
   refine CS.out.mono ?_
   rintro e w1 ⟨rfl, hb1⟩
   have HB1 : Hid (Below w.heap.size w w1) := HBX.out.trans (hb1.out.mono HBX.out.size)
   have HXC1 : Hid (w1.heap[b]? = some (.cells A.cells.toArray 35 (0, 0))) := by
    show _ = _
    rw [hb1.out.block b (Array.getElem?_eq_some_iff.1 HXC.out).1]; exact HXC.out
   have k3 : w1.cell? ⟨b, 3, none⟩ = some (.slice A.kao A.keep.length A.kcap) := by rw [cell_at HXC1.out]; rfl
   have CM1 := Lib.hid (CM.out _ HB1.out)
   clear hb1 CM CS HXC HX HBX
   go_wp2_with fail
   refine CM1.out.mono ?_
   rintro e w1' ⟨rfl, rfl⟩
   clear CM1
   go_wp2
   go_ret
   exact ⟨rfl, by first | exact HB1.out | (rw [<- HE.out]; exact HB1.out)⟩
  ·have hsm' : small7 L = false := by simpa using hsm
   rw [hsm'] at CM
   clear hsm hsm' hg HA HAt HDa
   go_enter Tryz.func9, Tryz.ntmps9
   go_wp2_with fail
   rw [HX.out, HE.out]
   refine CS.out.mono ?_
   rintro e w1 ⟨rfl, hb1⟩
   have HB1 : Hid (Below w.heap.size w w1) := HBX.out.trans (hb1.out.mono HBX.out.size)
   have CM1 := Lib.hid (CM.out _ HB1.out)
   clear hb1 CM CS HXC HX HBX
   go_wp2_with fail
   refine CM1.out.mono ?_
   rintro e w1' ⟨rfl, rfl⟩
   clear CM1
   go_wp2
   go_ret
   exact ⟨rfl, by first | exact HB1.out | (rw [<- HE.out]; exact HB1.out)⟩
end Go.Proofs.YthambopnmhkeeaaGreat
