/- What the program's reader leaps over; Count. -/
import Derived.Test.YtjcajeilhcjneaaZPoEnc
import Derived.StillTailTactics

set_option maxRecDepth 100000
namespace Go.Proofs.Ytjcajeilhcjneaa.Po
open Go.RowKit
open Fr (varL rdV bs)
theorem tdiv_8 (c : Nat) : ((c : Int) - 1).tdiv 8 = (((c - 1) / 8 : Nat) : Int) := by
 cases c with
 | zero => rfl
 | succ n =>
  rw [show ((n + 1 : Nat) : Int) - 1 = (n : Int) by omega, Int.tdiv_eq_ediv_of_nonneg (by omega)]
  omega
set_option maxHeartbeats 8000000 in
theorem pleap_any (doc : Int) (l : List UInt8) (g : Nat) (w : World) (h : RdB w g l) (hs : l.length <= 4000000) (hd : -9223372036854775808 <= doc /\ doc <= 9223372036854775807) :
  Calls Try.prog 32 #[.pointer (some ⟨g, 0, none⟩), .int .i64 doc] w fun e w' => e = .returned (.int .i64 (fLeap doc l).1) /\ RdB w' g (fLeap doc l).2 /\ Only (fun k => k = g) w w' := by
 have HLp : Hid (fLeap doc l = ((fSkips doc (((fNum l).1 - 1) / 8) (-1) (-1) 0 (fNum l).2).1, (fSkips doc (((fNum l).1 - 1) / 8) (-1) (-1) 0 (fNum l).2).2.2.drop (min (fSkips doc (((fNum l).1 - 1) / 8) (-1) (-1) 0 (fNum l).2).2.1 (fSkips doc (((fNum l).1 - 1) / 8) (-1) (-1) 0 (fNum l).2).2.2.length))) := rfl
 have hl1 := fNum_le l
 have C1 := Lib.hid (pnum_any l g w h hs)
 have HG : Hid (g < w.heap.size) := h.lt
 obtain ⟨c, hc⟩ : ∃ c, (fNum l).1 = c := ⟨_, rfl⟩
 obtain ⟨l1, hl1e⟩ : ∃ l1, (fNum l).2 = l1 := ⟨_, rfl⟩
 rw [hc, hl1e] at C1 hl1 HLp
 obtain ⟨G, hG⟩ : ∃ G, (c - 1) / 8 = G := ⟨_, rfl⟩
 have hw1 : IntKind.i64.wrap ((c : Int) - 1) = (c : Int) - 1 := IntWalk.i64_in _ (by omega)
 have ht := tdiv_8 c
 have hGb : G <= 8192 := by omega
 rw [hG] at ht HLp
 have hwG : IntKind.i64.wrap (G : Int) = (G : Int) := IntWalk.i64_in _ (by omega)
 clear h hc hl1e hG
 go_enter Try.func32, Try.ntmps32
 go_wp2_with fail
 refine C1.out.mono ?_
 rintro e w1 ⟨rfl, hr1, ho1⟩
 have HD1 := Lib.hid hr1
 have HO1 := Lib.hid ho1
 clear hr1 ho1 C1
 go_wp2_with fail
 go_loopw [6, 7, 8, 15] (fun av ev ov iv wr => ∃ (n j o : Nat) (la en : Int) (m : List UInt8), av = .int .i64 la /\ ev = .int .i64 en /\ ov = .int .i64 (o : Int) /\ iv = .int .i64 (j : Int) /\ j + n = G /\ -1 <= en /\ en <= 65536 * (j : Int) /\ o <= 65536 * j /\ m.length <= l.length /\
   Hid (fSkips doc G (-1) (-1) 0 l1 = fSkips doc n la en o m) /\ Hid (RdB wr g m) /\ Hid (Only (fun k => k = g) w wr)) (fun _ _ _ iv _ => G - (intOf iv).toNat)
 case atStart => exact ⟨G, 0, 0, -1, -1, l1, rfl, rfl, rfl, rfl, by omega, by omega, by omega, by omega, hl1.2.1, rfl, HD1.out, HO1.out⟩
 case round =>
  clear HD1 HO1
  obtain ⟨n, j, o, la, en, m, rfl, rfl, rfl, rfl, hjn, he1, he2, ho, hml, HF, HD, HO⟩ := hrel
  by_cases hlt : j < G
  ·have hiz : (j : Int) < (G : Int) := by omega
   obtain ⟨n', rfl⟩ : ∃ n', n = n' + 1 := ⟨n - 1, by omega⟩
   have hm1 := fNum_le m
   have hm2 := fNum_le (fNum m).2
   have CN := Lib.hid (pnum_any m g wr HD.out (by omega))
   have CM := Lib.hid (fun W (hW : RdB W g (fNum m).2) => pnum_any (fNum m).2 g W hW (by omega))
   rw [fSkips] at HF
   obtain ⟨x, hx⟩ : ∃ x, (fNum m).1 = x := ⟨_, rfl⟩
   obtain ⟨m1, hm1e⟩ : ∃ m1, (fNum m).2 = m1 := ⟨_, rfl⟩
   rw [hx, hm1e] at HF CN hm1
   rw [hm1e] at CM hm2
   obtain ⟨y, hy⟩ : ∃ y, (fNum m1).1 = y := ⟨_, rfl⟩
   obtain ⟨m2, hm2e⟩ : ∃ m2, (fNum m1).2 = m2 := ⟨_, rfl⟩
   rw [hy, hm2e] at HF CM hm2
   have hw2 : IntKind.i64.wrap (en + (x : Int)) = en + (x : Int) := IntWalk.i64_in _ (by omega)
   have hw3 : IntKind.i64.wrap ((o : Int) + (y : Int)) = ((o + y : Nat) : Int) := by rw [Int.natCast_add]; exact IntWalk.i64_in _ (by omega)
   have h3 : 0 <= (j : Int) := by omega
   have h4 : (j : Int).toNat = j := rfl
   clear hx hm1e hy hm2e
   go_wp2_with fail
   refine CN.out.mono ?_
   rintro e w2 ⟨rfl, hr2, ho2⟩
   have C2 := Lib.hid (CM.out w2 hr2)
   have HO2 : Hid (Only (fun k => k = g) w w2) := HO.out.trans ho2 fun _ _ h => h
   clear hr2 ho2 CN CM HD HO
   go_wp2_with fail
   refine C2.out.mono ?_
   rintro e w3 ⟨rfl, hr3, ho3⟩
   have HD3 := Lib.hid hr3
   have HO3 : Hid (Only (fun k => k = g) w w3) := HO2.out.trans ho3 fun _ _ h => h
   clear hr3 ho3 C2 HO2
   by_cases hdl : en + (x : Int) < doc
   ·rw [if_pos hdl] at HF
    have hdb : decide (en + (x : Int) < doc) = true := decide_eq_true hdl
    go_wp2_with fail
    go_roundw
    case rel => exact ⟨n', j + 1, o + y, _, _, m2, rfl, rfl, rfl, by go_num, by omega, by omega, by omega, by omega, by omega, HF.out, HD3.out, HO3.out⟩
    case measure => simp [intOf]; omega
   ·rw [if_neg hdl] at HF
    have hdb : decide (en + (x : Int) < doc) = false := decide_eq_false hdl
    go_wp2_with fail
    go_roundw
    case rel => exact ⟨n', j + 1, o, la, _, m2, rfl, rfl, rfl, by go_num, by omega, by omega, by omega, by omega, by omega, HF.out, HD3.out, HO3.out⟩
    case measure => simp [intOf]; omega
  ·obtain rfl : j = G := by omega
   obtain rfl : n = 0 := by omega
   have hiz : ¬ (j : Int) < (j : Int) := by omega
   rw [HF.out] at HLp
   simp only [fSkips] at HLp
   have x0 := HD.out.cell
   have f0 := free_at HD.out 0
   have HEx : Hid (∀ q, (bs m).extract q (bs m).size = bs (m.drop q)) := fun q => by rw [Fr.ext_drop, bs_list]
   have HSet : Hid (∀ W q, RdB W g m -> RdB (W.setCell ⟨g, 0, none⟩ (.string ((bs m).extract q (bs m).size))) g (m.drop q)) := fun W q hW => by rw [HEx.out]; exact hW.set _
   obtain ⟨k, hk⟩ : ∃ k, m.length = k := ⟨_, rfl⟩
   have hsz : (bs m).size = k := by rw [Fr.bs_size, hk]
   have hkl : k <= 4000000 := by omega
   have HSet2 : Hid (∀ W q, RdB W g m -> RdB (W.setCell ⟨g, 0, none⟩ (.string ((bs m).extract q k))) g (m.drop q)) := fun W q hW => by have := HSet.out W q hW; rwa [hsz] at this
   rw [hk] at HLp
   have HLz := Lib.hid hk
   generalize bs m = s at *
   clear HEx HSet hml hk
   go_wp2_with fail
   have hs0 : 0 <= (o : Int) := by omega
   have hs1 : (o : Int).toNat = o := rfl
   have HOn : Hid (∀ u, Only (fun k => k = g) w (wr.drew.setCell ⟨g, 0, none⟩ u)) := fun u => HO.out.drew.setCell (p := ⟨g, 0, none⟩) (fun _ => rfl) u
   by_cases hmo : o <= k
   ·have hm1 : (o : Int) <= (k : Int) := by omega
    have hm2 : ¬ (k : Int) < (o : Int) := by omega
    have hm3 : min (o : Int) (k : Int) = (o : Int) := by omega
    have HF2 : Hid (fLeap doc l = (la, m.drop o)) := by show _ = _; rw [HLp.out, Nat.min_eq_left hmo]
    go_still_tail 13, (by kernel_rfl)
    change wpList _ _ _ _ _ wr.drew
    have x1 : wr.drew.cell? ⟨g, 0, none⟩ = some (.string s) := x0
    have f1 : wr.drew.frozen? ⟨g, 0, none⟩ = false := f0
    have HD2 : Hid (RdB wr.drew g m) := HD.out
    generalize wr.drew = W2 at *
    go_wp2
    go_ret
    rw [HF2.out]
    exact ⟨rfl, HSet2.out _ _ HD2.out, HOn.out _⟩
   ·have hm1 : (k : Int) <= (o : Int) := by omega
    have hm2 : (k : Int) < (o : Int) := by omega
    have hm3 : min (o : Int) (k : Int) = (k : Int) := by omega
    have hm4 : 0 <= (k : Int) := by omega
    have hm5 : (k : Int).toNat = k := rfl
    have hm6 : (k : Int) <= (k : Int) := Int.le_refl _
    have HF2 : Hid (fLeap doc l = (la, [])) := by show _ = _; rw [HLp.out, Nat.min_eq_right (by omega), <- HLz.out, List.drop_length]
    go_still_tail 13, (by kernel_rfl)
    change wpList _ _ _ _ _ wr.drew
    have x1 : wr.drew.cell? ⟨g, 0, none⟩ = some (.string s) := x0
    have f1 : wr.drew.frozen? ⟨g, 0, none⟩ = false := f0
    have HD2 : Hid (RdB wr.drew g m) := HD.out
    generalize wr.drew = W2 at *
    go_wp2
    go_ret
    rw [HF2.out]
    exact ⟨rfl, HD2.out.set [], HOn.out _⟩
set_option maxHeartbeats 2000000 in
theorem pcount_any (L : List Pg) (hR : RightG L) (w : World) : Calls Try.prog 19 #[.string (bs (bytesP L))] w fun e w' => e = .returned (.int .i64 (L.length : Int)) /\ Below w.heap.size w w' := by
 have hl := right_len hR
 have hn : (fNum (bytesP L)).1 = L.length := by unfold bytesP; rw [fNum_varL _ _ (by omega)]
 have hz := bytesP_len hR
 obtain ⟨W0, hW0⟩ : ∃ W0, w.alloc (.cells #[.string (bs (bytesP L))] 56) = W0 := ⟨_, rfl⟩
 have hr : RdB W0 w.heap.size (bytesP L) := by rw [<- hW0]; exact heap_newP w _
 have C := Lib.hid (pnum_any (bytesP L) w.heap.size W0 hr (by omega))
 rw [hn] at C
 have HB : Hid (∀ W, Only (fun k => k = w.heap.size) W0 W -> Below w.heap.size w W) := fun W hW => by
  have h1 : Only (fun k => k = w.heap.size) w W0 := by rw [<- hW0]; exact (Only.refl _ w).alloc _
  exact (h1.trans hW fun _ _ h => h).below (Nat.le_refl _) fun k _ h => by rw [h]; exact Nat.le_refl _
 have HW0 := Lib.hid hW0
 clear hr hn hz hW0
 generalize bs (bytesP L) = s at *
 go_enter Try.func19, Try.ntmps19
 go_wp2_with fail
 rw [HW0.out]
 refine C.out.mono ?_
 rintro e w1 ⟨rfl, _, ho1⟩
 have HB1 := Lib.hid (HB.out _ ho1)
 clear ho1
 go_wp2_with fail
 go_ret
 exact ⟨rfl, HB1.out⟩
end Go.Proofs.Ytjcajeilhcjneaa.Po
