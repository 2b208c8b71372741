/- The program's From: the contract of its iterator. -/
import Derived.Test.YtjcajeilhcjneaaZPrLeap
import Derived.RangeFuncWrites
import Derived.RangeFuncFrom
import Derived.RangeFuncNested
import Derived.RangeFuncBound
import Derived.RangeFuncCalls
import Derived.RangeFuncLeaves
import Derived.RangeFuncBox
import Derived.Shelf.Abstract
import Derived.Shelf.RegionOpen
import Derived.OwnWalkIn
import Derived.TacticsInMore
import Derived.LoopNIn
import Derived.LoopIn
import Derived.Test.YtjcajeilhcjneaaZPoOne
import Derived.Test.YtjcajeilhcjneaaZPoTake
import Derived.Test.YtjcajeilhcjneaaZPoHelp
import Derived.Deep.RegionHeld3
import Derived.Test.YtjcajeilhcjneaaZWFix

set_option maxRecDepth 100000
namespace Go.Proofs.Ytjcajeilhcjneaa.Po
open Go.RowKit Go.Shelf
open Fr (bs)
attribute [local go_sem] Oper.semAt_some
theorem OwnI.slt {B : Nat} {w : World} {v : Value} {L : List Int} (h : OwnI B w v L) : SlT w v L := by
 have hO := h
 rcases h.2 with ⟨hv, hn⟩ | ⟨g, cap, cur, rfl, hbg, hg, hc, _⟩
 ·exact ⟨none, 0, by rw [hv, hn], by omega, fun j hj => absurd hj (by omega)⟩
 ·refine ⟨_, cap, rfl, hc, fun j hj => ⟨g, 0, cur, (0, 0), rfl, hg, ?_⟩⟩
  have := World.ownsRow.cellAt hO j (by omega)
  rw [cell_atP hg] at this
  rw [Nat.zero_add, this]
  simp [hj]
def rdLen (W : World) (B : Nat) : Nat := match W.cell? ⟨B, 0, none⟩ with
 | some (.string s) => s.size
 | _ => 0
theorem RdB.len {W : World} {B : Nat} {m : List UInt8} (h : RdB W B m) : rdLen W B = m.length := by
 unfold rdLen
 rw [h.cell]
 exact Fr.bs_size m
theorem drop_cons {F : List Pg} {i : Nat} {p : Pg} {R : List Pg} (h : F.drop i = p :: R) : ∃ hi : i < F.length, F[i] = p /\ F.drop (i + 1) = R := by
 have hi : i < F.length := by
  have := congrArg List.length h
  rw [List.length_drop, List.length_cons] at this
  omega
 rw [List.drop_eq_getElem_cons hi] at h
 injection h with h1 h2
 exact ⟨hi, h1, h2⟩
structure FS (J : List Value -> World -> Prop) (doc : Int) (F : List Pg) (B Bd : Nat) (V : World) (us : List Value) (n : Nat) (a : Int) (m : List UInt8) : Prop where
 bd : V.heap[Bd]? = some (.cells #[.int .i64 doc] 3 (0, 0))
 rd : RdB V B m
 j : J us V
 fuel : m.length <= n
 rest : F.drop us.length = fAll doc n a m
 le : us.length <= F.length
 len : m.length <= 4000000
 pts : ∀ u ∈ us, ¬ PtsP u B
 lo : -1 <= a
 hi : a + 65536 * (m.length : Int) <= 300000000000
theorem fSkips_le (doc : Int) : ∀ (n : Nat) (la en : Int) (ov : Nat) (m : List UInt8), -1 <= la -> la <= 65536 * 8192 -> -1 <= en -> en + 65536 * (n : Int) <= 65536 * 8192 -> (fSkips doc n la en ov m).2.2.length <= m.length /\ -1 <= (fSkips doc n la en ov m).1 /\ (fSkips doc n la en ov m).1 <= 65536 * 8192
 | 0, la, en, ov, m, h1, h2, _, _ => ⟨Nat.le_refl _, h1, h2⟩
 | n + 1, la, en, ov, m, h1, h2, h3, h4 => by
  have g1 := fNum_le m
  have g2 := fNum_le (fNum m).2
  rw [fSkips]
  split
  ·have := fSkips_le doc n (en + (fNum m).1) (en + (fNum m).1) (ov + (fNum (fNum m).2).1) (fNum (fNum m).2).2 (by omega) (by omega) (by omega) (by omega)
   exact ⟨by omega, this.2⟩
  ·have := fSkips_le doc n la (en + (fNum m).1) ov (fNum (fNum m).2).2 h1 h2 (by omega) (by omega)
   exact ⟨by omega, this.2⟩
theorem fLeap_le (doc : Int) (l : List UInt8) : (fLeap doc l).2.length <= l.length /\ -1 <= (fLeap doc l).1 /\ (fLeap doc l).1 <= 600000000 := by
 have g1 := fNum_le l
 have := fSkips_le doc (((fNum l).1 - 1) / 8) (-1) (-1) 0 (fNum l).2 (by omega) (by omega) (by omega) (by omega)
 unfold fLeap
 dsimp only
 rw [List.length_drop]
 omega
set_option maxHeartbeats 4000000 in
theorem pfrom1_up (doc : Int) (l : List UInt8) (hs : l.length <= 4000000) (hd : -9223372036854775808 <= doc /\ doc <= 9223372036854775807) (Bs Bd : Nat) (w : World)
  (hBs : w.heap[Bs]? = some (.cells #[.string (bs l)] 9 (0, 0))) (hBd : w.heap[Bd]? = some (.cells #[.int .i64 doc] 3 (0, 0))) :
  SeqUp OkP PtsP Try.prog 31 #[.pointer (some ⟨Bs, 0, none⟩), .pointer (some ⟨Bd, 0, none⟩)] (EncP (fFrom doc l)) KpP (fFrom doc l).length w := by
 obtain ⟨F, hF⟩ : ∃ F, fFrom doc l = F := ⟨_, rfl⟩
 have HF := Lib.hid hF
 rw [hF]
 clear hF
 intro l' J Jx W hW hAb hAbx hY hj0
 have hBW : W.heap[Bs]? = some (.cells #[.string (bs l)] 9 (0, 0)) := (hW.block _ (Array.getElem?_eq_some_iff.1 hBs).1).trans hBs
 have hDW : W.heap[Bd]? = some (.cells #[.int .i64 doc] 3 (0, 0)) := (hW.block _ (Array.getElem?_eq_some_iff.1 hBd).1).trans hBd
 have hDl : Bd < W.heap.size := (Array.getElem?_eq_some_iff.1 hDW).1
 have HY := Lib.hid hY
 have HA := Lib.hid hAb
 have HAx := Lib.hid hAbx
 have HDW := Lib.hid hDW
 have cs := cell_atP hBW 0
 have cd : (W.alloc (.cells #[.string (bs l)] 56)).cell? ⟨Bd, 0, none⟩ = some (.int .i64 doc) := by
  rw [((Below.refl _ W).alloc (Nat.le_refl _) _).cell (p := ⟨Bd, 0, none⟩) hDl, cell_atP hDW 0]; rfl
 obtain ⟨B, hB⟩ : ∃ B, W.heap.size = B := ⟨_, rfl⟩
 obtain ⟨W1, hW1⟩ : ∃ W1, W.alloc (.cells #[.string (bs l)] 56) = W1 := ⟨_, rfl⟩
 have hr1 : RdB W1 B l := by rw [<- hW1, <- hB]; exact heap_newP W _
 have hb1 : Below W.heap.size W W1 := by rw [<- hW1]; exact (Below.refl _ W).alloc (Nat.le_refl _) _
 have hs1 : W1.heap.size = B + 1 := by rw [<- hW1, World.size_alloc, hB]
 have CL := Lib.hid (pleap_any doc l B W1 hr1 hs hd)
 have HB1 := Lib.hid hb1
 have HW1 := Lib.hid hW1
 have HS1 := Lib.hid hs1
 have HJ0 := Lib.hid hj0
 clear hY hAb hAbx hW hBs hBd hBW hDW hr1 hb1 hW1 hs1 hj0
 refine (callsIn_wide (n := 1)).1 ?_
 refine callsIn_of_wp Try.func31 rfl trivial ?_ rfl
 simp only [Try.ntmps31, List.size_toArray, List.length_cons, List.length_nil, Nat.reduceAdd, Nat.reduceSub, Array.replicate_succ, Array.replicate_zero, List.push_toArray, List.append_toArray, List.nil_append, List.cons_append]
 gi_wp2
 rw [HW1.out]
 refine ⟨trivial, ?_⟩
 gi_at_call 32
 refine (callsIn_wide.2 CL.out).mono ?_
 rintro e w2 ⟨rfl, hr2, ho2⟩
 have hDB : Bd < B := by omega
 have hlz : (fLeap doc l).2.length <= l.length /\ -1 <= (fLeap doc l).1 /\ (fLeap doc l).1 <= 600000000 := fLeap_le doc l
 have hs2 : B + 1 <= w2.heap.size := by rw [<- HS1.out]; exact ho2.size
 have hbW2 : Below W.heap.size W w2 := by
  have h1 : Only (fun k => k = B) W W1 := Only.of_below _ HB1.out (by rw [hB]; exact Nat.le_refl _)
  exact (h1.trans ho2 fun _ _ h => h).below (Nat.le_refl _) fun k hk h => by rw [h, hB]; exact Nat.le_refl _
 have HFS : Hid (FS J doc F B Bd w2 [] (fLeap doc l).2.length (fLeap doc l).1 (fLeap doc l).2) :=
  ⟨(hbW2.block _ hDl).trans HDW.out, hr2, HA.out [] W w2 HJ0.out (later_below hbW2), Nat.le_refl _, (by rw [<- HF.out]; rfl), Nat.zero_le _, by omega, (fun u hu => by cases hu), hlz.2.1, by omega⟩
 obtain ⟨a0, ha0⟩ : ∃ a0, (fLeap doc l).1 = a0 := ⟨_, rfl⟩
 obtain ⟨m0, hm0⟩ : ∃ m0, (fLeap doc l).2 = m0 := ⟨_, rfl⟩
 rw [ha0, hm0] at HFS
 rw [ha0]
 clear hr2 ho2 hlz ha0 hm0 cs cd HJ0 HW1 HB1 HS1 CL hbW2 HF
 gi_wp2
 gi_loopw [5] (fun lv wr => ∃ (n : Nat) (a : Int) (m : List UInt8) (us : List Value), lv = .int .i64 a /\ m.length <= n /\ Hid (FS J doc F B Bd wr us n a m) /\ Hid (B + 1 <= wr.heap.size)) (fun _ wr => rdLen wr B)
 case atStart => exact ⟨_, _, _, _, rfl, Nat.le_refl _, HFS.out, hs2⟩
 case round =>
  obtain ⟨n, a, m, us, rfl, hmn, H, HZ⟩ := hrel
  have x0 := H.out.rd.cell
  have hle := H.out.rd.len
  cases m with
  | nil =>
   have he0 : (bs ([] : List UInt8)).toList.isEmpty = true := bs_nil
   have HF : Hid (us.length = F.length /\ J us wr) := by
    have h1 := H.out.rest
    have h2 := H.out.le
    have h3 : fAll doc n a [] = [] := by cases n <;> rfl
    rw [h3] at h1
    have h4 := congrArg List.length h1
    rw [List.length_drop, List.length_nil] at h4
    exact ⟨by omega, H.out.j⟩
   clear H HZ
   generalize bs ([] : List UInt8) = s0 at *
   gi_wp2
   go_end0
   exact ⟨⟨_, rfl⟩, .inl ⟨_, HF.out.1, HF.out.2⟩⟩
  | cons b t =>
   obtain ⟨n, rfl⟩ : ∃ n', n = n' + 1 := ⟨n - 1, by simp at hmn; omega⟩
   have he0 : (bs (b :: t)).toList.isEmpty = false := bs_cons b t
   have hlo := H.out.lo
   have hhi := H.out.hi
   have hlen := H.out.len
   have CP := Lib.hid (pposting_any a (b :: t) B wr H.out.rd hlen (by simp at hhi ⊢; omega))
   have hol := fOne_len a (l := b :: t) (by simp)
   have hdl : -1 <= (fOne a (b :: t)).1.doc /\ (fOne a (b :: t)).1.doc <= a + 65536 := by
    have := (fNum_le (b :: t)).1
    show -1 <= a + ((fNum (b :: t)).1 : Int) /\ a + ((fNum (b :: t)).1 : Int) <= a + 65536
    omega
   have HR : Hid (F.drop us.length = (if doc <= (fOne a (b :: t)).1.doc then [(fOne a (b :: t)).1] else []) ++ fAll doc n (fOne a (b :: t)).1.doc (fOne a (b :: t)).2) := by
    show _ = _
    rw [H.out.rest, fAll]
   obtain ⟨p, hp⟩ : ∃ p, (fOne a (b :: t)).1 = p := ⟨_, rfl⟩
   obtain ⟨m', hm'⟩ : ∃ m', (fOne a (b :: t)).2 = m' := ⟨_, rfl⟩
   rw [hp, hm'] at CP HR hol
   rw [hp] at hdl
   have hml : (b :: t).length = t.length + 1 := rfl
   obtain ⟨mz, hmz⟩ : ∃ mz, (b :: t).length = mz := ⟨_, rfl⟩
   rw [hmz] at hle hol hhi hlen hmn
   clear hp hm'
   generalize bs (b :: t) = s0 at *
   clear hml hmz
   gi_wp2
   refine ⟨trivial, ?_⟩
   gi_at_call 33
   refine (callsIn_wide.2 CP.out).mono ?_
   rintro e w3 ⟨ve, rfl, hve, hr3, ho3⟩
   obtain ⟨vo, vc, rfl⟩ := own_sliceI hve
   have HVe := Lib.hid hve
   have hz3 : wr.heap.size <= w3.heap.size := ho3.size
   have hBl := H.out.rd.lt
   have HD3 : Hid (w3.heap[Bd]? = some (.cells #[.int .i64 doc] 3 (0, 0))) := (ho3.block Bd (by omega) (by omega)).trans H.out.bd
   have HJ3 : Hid (J us w3) := HA.out us wr w3 H.out.j ⟨ho3.os, ho3.tape, ho3.output, ho3.size, fun k hk => by
    by_cases e : k = B
    ·subst e
     exact .inr ⟨by omega, _, H.out.rd, .inr ⟨⟨_, _, _, by decide, by decide, rfl⟩, fun u hu => H.out.pts u hu⟩⟩
    ·exact .inl (ho3.block k hk e)⟩
   have HR3 := Lib.hid hr3
   obtain ⟨X, hX⟩ : ∃ X, w3.heap.size = X := ⟨_, rfl⟩
   obtain ⟨d, hdd⟩ : ∃ d, p.doc = d := ⟨_, rfl⟩
   obtain ⟨kp, hkp⟩ : ∃ kp, p.pos.length = kp := ⟨_, rfl⟩
   rw [hdd] at hdl
   rw [hkp] at hol
   have HDd := Lib.hid hdd
   have HKp := Lib.hid hkp
   rw [hdd, hkp]
   obtain ⟨V1, hV1⟩ : ∃ V1, w3.alloc (.cells #[.int .i64 d, .slice vo kp vc] 37) = V1 := ⟨_, rfl⟩
   have hbV : Below w3.heap.size w3 V1 := by rw [<- hV1]; exact (Below.refl _ w3).alloc (Nat.le_refl _) _
   have hxV : V1.heap[X]? = some (.cells #[.int .i64 d, .slice vo kp vc] 37 (0, 0)) := by rw [<- hV1, <- hX]; exact heap_newP w3 _
   have hdV : V1.heap[Bd]? = some (.cells #[.int .i64 doc] 3 (0, 0)) := (hbV.block Bd (by omega)).trans HD3.out
   have cd : (w3.alloc (.cells #[.int .i64 d, .slice vo kp vc] 37)).cell? ⟨Bd, 0, none⟩ = some (.int .i64 doc) := by rw [hV1]; exact cell_atP hdV 0
   have cx : (w3.alloc (.cells #[.int .i64 d, .slice vo kp vc] 37)).cell? ⟨X, 0, none⟩ = some (.int .i64 d) := by rw [hV1]; exact cell_atP hxV 0
   have cx1 : (w3.alloc (.cells #[.int .i64 d, .slice vo kp vc] 37)).cell? ⟨X, 1, none⟩ = some (.slice vo kp vc) := by rw [hV1]; exact cell_atP hxV 1
   have HbV := Lib.hid hbV
   have HxV := Lib.hid hxV
   have HdV := Lib.hid hdV
   have HrV : Hid (RdB V1 B m') := HR3.out.below hbV
   have HjV : Hid (J us V1) := HA.out us w3 V1 HJ3.out (later_below hbV)
   have HzV : Hid (B + 1 <= V1.heap.size) := by have := hbV.size; show _ <= _; omega
   have HV1 := Lib.hid hV1
   clear hve hr3 ho3 hdd hkp hbV hxV hdV hV1 x0 CP
   have hmp := H.out.pts
   have HPt := Lib.hid hmp
   have HLe := Lib.hid H.out.le
   clear hmp
   by_cases hdoc : doc <= d
   ·have hdb : decide (doc <= d) = true := decide_eq_true hdoc
    obtain ⟨hi, hFi, hFr⟩ := drop_cons (F := F) (i := us.length) (p := p) (R := fAll doc n p.doc m') (by rw [HR.out, if_pos (by rw [HDd.out]; exact hdoc)]; rfl)
    have HEn : Hid (EncP F us.length (.agg #[.int .i64 d, .slice vo kp vc]) V1) := by
     refine ⟨hi, .slice vo kp vc, by rw [hFi, HDd.out], ?_⟩
     rw [hFi]
     have h1 : OwnI wr.heap.size w3 (.slice vo kp vc) p.pos := by have := HVe.out; rwa [HKp.out] at this
     exact (h1.below HbV.out).slt
    have hy0 := HY.out us (.agg #[.int .i64 d, .slice vo kp vc]) w3 V1 hi HJ3.out HbV.out HEn.out
    obtain ⟨fn, tmps, assign, body, hy, hRd⟩ := hy0
    have HRd := Lib.hid hRd
    clear hRd
    gi_wp2
    rw [HV1.out, hy]
    gi_wp2
    refine HRd.out.mono ?_
    rintro e V2 (⟨rfl, hJ4, hk4, hf4, hn4⟩ | ⟨rfl, hJx4⟩)
    ·have hxl : X < V1.heap.size := (Array.getElem?_eq_some_iff.1 HxV.out).1
     have hx2 : V2.heap[X]? = some (.cells #[.int .i64 d, .slice vo kp vc] 37 (0, 0)) := (hn4 X (by omega) hxl).trans HxV.out
     have cx2 := cell_atP hx2 0
     have HFS2 : Hid (FS J doc F B Bd V2 (us ++ [.agg #[.int .i64 d, .slice vo kp vc]]) n d m') := by
      refine ⟨hk4.2 _ _ _ _ (by decide) (by decide) HdV.out, hk4.2 _ _ _ _ (by decide) (by decide) HrV.out, hJ4, by omega, ?_, by rw [List.length_append, List.length_singleton]; omega, by omega, fun u hu => ?_, hdl.1, by omega⟩
      ·rw [List.length_append, List.length_singleton, hFr, HDd.out]
      ·rcases List.mem_append.1 hu with hu | hu
       ·exact HPt.out u hu
       ·rw [List.mem_singleton.1 hu]
        rintro ⟨d', a', m2, c', e, hab⟩
        injection e with e
        have e2 := congrArg (fun z : Array Value => z[1]?) e
        have e3 : Value.slice vo kp vc = .slice (some a') m2 c' := by simpa using e2
        injection e3 with e3 _ _
        have := own_low HVe.out (q := a'.block) (by rw [e3]; rfl)
        omega
     have HZ2 : Hid (B + 1 <= V2.heap.size) := Nat.le_trans HzV.out hk4.1
     have hle2 := HFS2.out.rd.len
     clear hJ4 hk4 hf4 hn4 hx2 cd cx cx1
     gi_wp2
     go_roundw
     case rel => exact ⟨n, d, m', _, rfl, by omega, HFS2.out, HZ2.out⟩
     case measure => rw [hle, hle2]; omega
    ·have HJx := Lib.hid hJx4
     clear hJx4
     gi_wp2
     refine bodyPost_ret (results_none rfl _ _ _) rfl ?_
     exact ⟨⟨_, rfl⟩, .inr ⟨_, HJx.out⟩⟩
   ·have hdb : decide (doc <= d) = false := decide_eq_false hdoc
    have HFS2 : Hid (FS J doc F B Bd V1 us n d m') := by
     refine ⟨HdV.out, HrV.out, HjV.out, by omega, ?_, HLe.out, by omega, HPt.out, hdl.1, by omega⟩
     rw [HR.out, if_neg (by rw [HDd.out]; exact hdoc), HDd.out]
     rfl
    have hle2 := HFS2.out.rd.len
    gi_wp2
    all_goals
     refine ⟨(fun f h => by cases h), ?_⟩
     gi_wp2
     rw [HV1.out]
     exact ⟨⟨n, d, m', us, rfl, by omega, HFS2.out, HzV.out⟩, by rw [hle, hle2]; omega⟩
theorem pfrom_bytes (l : List UInt8) (hs : l.length <= 4000000) (doc : Int) (w : World) (hd : -9223372036854775808 <= doc /\ doc <= 9223372036854775807) : Calls Try.prog 26 #[.string (bs l), .int .i64 doc] w fun e w' =>
  (∃ gf lb, e = .returned (.func (.func gf) #[] lb) /\ (∀ args W, (callFunc gf args).run Try.prog W = .ok (.enter gf args) W) /\ SeqUp OkP PtsP Try.prog gf lb (EncP (fFrom doc l)) KpP (fFrom doc l).length w') /\ Below w.heap.size w w' := by
 obtain ⟨W1, hW1⟩ : ∃ W1, (w.alloc (.cells #[.string (bs l)] 9)).alloc (.cells #[.int .i64 doc] 3) = W1 := ⟨_, rfl⟩
 have hb1 : Below w.heap.size w W1 := by rw [<- hW1]; exact ((Below.refl _ w).alloc (Nat.le_refl _) _).alloc (by simp) _
 have h1 : W1.heap[w.heap.size]? = some (.cells #[.string (bs l)] 9 (0, 0)) := by
  rw [<- hW1, ((Below.refl _ (w.alloc (.cells #[.string (bs l)] 9))).alloc (Nat.le_refl _) _).block _ (by simp)]
  exact heap_newP w _
 have h2 : W1.heap[w.heap.size + 1]? = some (.cells #[.int .i64 doc] 3 (0, 0)) := by
  have := heap_newP (w.alloc (.cells #[.string (bs l)] 9)) (.cells #[.int .i64 doc] 3)
  rwa [World.size_alloc, hW1] at this
 have HS := Lib.hid (pfrom1_up doc l hs hd w.heap.size (w.heap.size + 1) W1 h1 h2)
 have HB := Lib.hid hb1
 have HW := Lib.hid hW1
 clear h1 h2 hb1 hW1
 generalize bs l = s at *
 go_enter Try.func26, Try.ntmps26
 go_wp2
 rw [HW.out]
 go_ret
 exact ⟨⟨_, _, rfl, enters_of Try.func31 (by kernel_rfl) rfl, HS.out⟩, HB.out⟩
theorem pfrom_any (L : List Pg) (hR : RightG L) (doc : Int) (w : World) (hd : -9223372036854775808 <= doc /\ doc <= 9223372036854775807) : Calls Try.prog 26 #[.string (bs (bytesP L)), .int .i64 doc] w fun e w' =>
  (∃ gf lb, e = .returned (.func (.func gf) #[] lb) /\ (∀ args W, (callFunc gf args).run Try.prog W = .ok (.enter gf args) W) /\ SeqUp OkP PtsP Try.prog gf lb (EncP (fromL L doc)) KpP (fromL L doc).length w') /\ Below w.heap.size w w' := by
 have := pfrom_bytes (bytesP L) (by have := bytesP_len hR; omega) doc w hd
 rwa [fFrom_back hR doc] at this
end Go.Proofs.Ytjcajeilhcjneaa.Po
/- What the program's Unpack of postings answers. -/
set_option maxRecDepth 100000
namespace Go.Proofs.Ytjcajeilhcjneaa.Po
open Go.RowKit Go.Shelf
open Fr (bs)
attribute [local go_sem] Oper.semAt_some
structure FU (w : World) (F : List Pg) (us : List Value) (v : Value) (vs : List Value) (V : World) : Prop where
 bo : Boxed V w.heap.size 22 v
 len : vs.length = us.length
 le : us.length <= F.length
 each : ∀ j (hj : j < us.length), us[j] = .agg #[.int .i64 (F[j]'(by omega)).doc, vs[j]'(by omega)] /\ SlT V (vs[j]'(by omega)) (F[j]'(by omega)).pos
 row : V.ownsRow w.heap.size 37 2 v us.length (flatV (F.take us.length) vs)
 below : Below w.heap.size w V
theorem FU.later {w : World} {F : List Pg} {us us' : List Value} {v : Value} {vs : List Value} {V V' : World} {B : Nat} (h : FU w F us v vs V) (hB : w.heap.size < B) (hs : ∀ u ∈ us, u ∈ us') (hl : Later OkP PtsP B us' V V') : FU w F us v vs V' := by
 have low : ∀ {k : Nat} {o : Obj}, k < B -> V.heap[k]? = some o -> V'.heap[k]? = some o := fun {k o} hk ho => by
  rcases hl.block k (Array.getElem?_eq_some_iff.1 ho).1 with e | ⟨e, _⟩
  ·exact e.trans ho
  ·omega
 refine ⟨low hB h.bo, h.len, h.le, fun j hj => ?_, ?_, ⟨hl.os.trans h.below.os, hl.tape.trans h.below.tape, hl.output.trans h.below.output, Nat.le_trans h.below.size hl.size, fun k hk => ?_⟩⟩
 ·obtain ⟨e1, e2⟩ := h.each j hj
  refine ⟨e1, ?_⟩
  obtain ⟨ao, c, hv, hlc, hc⟩ := e2
  refine ⟨ao, c, hv, hlc, fun i hi => ?_⟩
  obtain ⟨g, off, cs, s, e, hg, h1⟩ := hc i hi
  refine ⟨g, off, cs, s, e, ?_, h1⟩
  rcases hl.block g (Array.getElem?_eq_some_iff.1 hg).1 with q | ⟨_, o, ho, ho2⟩
  ·exact q.trans hg
  ·rw [hg] at ho
   cases ho
   rcases ho2 with ho2 | ⟨_, ho2⟩
   ·cases ho2
   ·exact absurd ⟨_, _, _, _, by rw [e1, hv, e], rfl⟩ (ho2 us[j] (hs _ (List.getElem_mem hj)))
 ·refine ⟨h.row.1, ?_⟩
  rcases h.row.2 with hn | ⟨g, cap, cur, e, hbg, hg, rest⟩
  ·exact .inl hn
  ·refine .inr ⟨g, cap, cur, e, hbg, ?_, rest⟩
   rcases hl.block g (Array.getElem?_eq_some_iff.1 hg).1 with q | ⟨_, o, ho, ho2⟩
   ·exact q.trans hg
   ·rw [hg] at ho
    cases ho
    rcases ho2 with ho2 | ⟨⟨cs, t, s, h1, _, h3⟩, _⟩
    ·cases ho2
    ·injection h3 with _ h3 _
     exact absurd h3.symm h1
 ·have hk' := h.below.size
  have := low (k := k) (o := V.heap[k]'(by omega)) (by omega) (by simp)
  rw [this, <- h.below.block k hk]
  simp
theorem FU.sl {w : World} {F : List Pg} {us : List Value} {v : Value} {vs : List Value} {V : World} (h : FU w F us v vs V) : SlQ w.heap.size V v (F.take us.length) := by
 have hl : (F.take us.length).length = us.length := by rw [List.length_take]; have := h.le; omega
 have hO := h.row
 rcases h.row.2 with ⟨hv, hn⟩ | ⟨g, cap, cur, hv, hbg, hg, hc, _⟩
 ·exact ⟨none, 0, by rw [hv, hl, hn], by omega, fun j hj => absurd hj (by omega)⟩
 ·subst hv
  refine ⟨_, cap, by rw [hl], by omega, fun j hj => ⟨g, 0, vs[j]'(by have := h.len; omega), rfl, hbg, (Array.getElem?_eq_some_iff.1 hg).1, ?_, ?_, ?_⟩⟩
  ·rw [Nat.zero_add, World.ownsRow.cellAt hO (j * 2) (by omega)]
   exact (flatV_get (F.take us.length) vs j (by rw [hl]; exact h.len) hj).1
  ·rw [Nat.zero_add, World.ownsRow.cellAt hO (j * 2 + 1) (by omega)]
   exact (flatV_get (F.take us.length) vs j (by rw [hl]; exact h.len) hj).2
  ·rw [List.getElem_take]
   exact (h.each j (by omega)).2
theorem FU.app {w : World} {F : List Pg} {us : List Value} {v v' ve : Value} {vs : List Value} {V w1 : World} {tmp : Obj} (h : FU w F us v vs V) (h1 : us.length < F.length) (h2 : SlT V ve F[us.length].pos)
  (hown : w1.ownsRow w.heap.size 37 2 v' (us.length + 1) (flatV (F.take us.length) vs ++ [.int .i64 F[us.length].doc, ve])) (hgrow : (V.alloc tmp).grownBy w1 v.ownBlock) :
  Boxed w1 w.heap.size 22 v /\ FU w F (us ++ [.agg #[.int .i64 F[us.length].doc, ve]]) v' (vs ++ [ve]) (w1.setCell ⟨w.heap.size, 0, none⟩ v') /\ KeepsOthers V (w1.setCell ⟨w.heap.size, 0, none⟩ v') /\ KpP V (w1.setCell ⟨w.heap.size, 0, none⟩ v') := by
 obtain ⟨a1, a2, a3, a4, a5⟩ := h.bo.appended (by decide) h.row h.below.size (Nat.le_refl _) hown hgrow
 have keepO : ∀ (k : Nat) (cs : Array Value) (t : TypeId) (s : Nat × Nat), t ≠ 37 -> t ≠ 22 -> V.heap[k]? = some (Obj.cells cs t s) -> (w1.setCell ⟨w.heap.size, 0, none⟩ v').heap[k]? = some (Obj.cells cs t s) := fun k cs t s ht1 ht2 hk => by
  have hlt : k < V.heap.size := (Array.getElem?_eq_some_iff.1 hk).1
  have e1 : (V.alloc tmp).heap[k]? = some (Obj.cells cs t s) := by
   rw [((Below.refl _ V).alloc (Nat.le_refl _) tmp).block k hlt]; exact hk
  have e2 : w1.heap[k]? = some (Obj.cells cs t s) := by
   rw [hgrow.block k (by rw [World.size_alloc]; omega) (fun e => ?_)]
   ·exact e1
   ·rcases h.row.2 with ⟨rfl, _⟩ | ⟨g, cap, cur, rfl, _, hg, _⟩
    ·cases e
    ·have : k = g := by injection e
     subst this
     rw [hk] at hg
     injection hg with hg
     injection hg with _ hg _
     exact ht1 hg
  rw [(grownBy_setCell' w1 w.heap.size v').block k (Array.getElem?_eq_some_iff.1 e2).1 (fun e => ?_)]
  ·exact e2
  ·have : k = w.heap.size := by injection e
   subst this
   have a1' : w1.heap[w.heap.size]? = _ := a1
   rw [e2] at a1'
   injection a1' with a1'
   injection a1' with _ a1' _
   exact ht2 a1'
 refine ⟨a1, ⟨a2, by rw [List.length_append, List.length_append, h.len]; rfl, by rw [List.length_append, List.length_singleton]; omega, fun j hj => ?_, ?_, h.below.trans a5⟩, a4, a4.size, keepO⟩
 ·rw [List.length_append, List.length_singleton] at hj
  have hvl := h.len
  by_cases hjM : j < us.length
  ·obtain ⟨e1, e2⟩ := h.each j hjM
   rw [List.getElem_append_left hjM, List.getElem_append_left (by omega)]
   exact ⟨e1, e2.kept fun k cs s hk => keepO k cs _ s (by decide) (by decide) hk⟩
  ·obtain rfl : j = us.length := by omega
   have e1 : (vs ++ [ve])[us.length]'(by rw [List.length_append, hvl]; simp) = ve := by rw [List.getElem_append_right (by omega)]; simp [hvl]
   rw [e1, List.getElem_append_right (Nat.le_refl _)]
   refine ⟨by simp, h2.kept fun k cs s hk => keepO k cs _ s (by decide) (by decide) hk⟩
 ·rw [List.length_append, List.length_singleton, List.take_succ_eq_append_getElem h1, flatV_snoc _ _ _ _ (by rw [List.length_take, h.len]; omega)]
  exact a3
theorem FU.lt {w : World} {F : List Pg} {us : List Value} {v : Value} {vs : List Value} {V : World} (h : FU w F us v vs V) {q : Nat} (hq : v.ownBlock = some q) : q < V.heap.size := (World.ownsRow.lt h.row q hq).2
set_option maxHeartbeats 8000000 in
theorem punpack_any (s : ByteArray) (w : World) (hs : s.size <= 4000000) :
  Calls Try.prog 15 #[.string s] w fun e w' => (match unpP s.data.toList with
   | some L => ∃ v, e = .returned (.tuple #[v, .int .i64 0]) /\ SlP w' v L
   | none => e = .returned (.tuple #[.slice none 0 0, .int .i64 7])) /\ Below w.heap.size w w' := by
 obtain ⟨i1, hj, hy0, hy1, hy2⟩ := info_parts infoPo
 have HY2 := Lib.hid hy2; clear hy2
 obtain ⟨P, hP⟩ : ∃ P : Ending -> World -> Prop, (fun e w' => (match unpP s.data.toList with
   | some L => ∃ v, e = .returned (.tuple #[v, .int .i64 0]) /\ SlP w' v L
   | none => e = .returned (.tuple #[.slice none 0 0, .int .i64 7])) /\ Below w.heap.size w w') = P := ⟨_, rfl⟩
 have hlen : s.data.toList.length <= 4000000 := by simpa using hs
 have hsb : bs s.data.toList = s := rfl
 obtain ⟨F, hF⟩ : ∃ F, fFrom 0 s.data.toList = F := ⟨_, rfl⟩
 have HPy : Hid (∀ v w', RightG F -> bs (bytesP F) = s -> SlP w' v F -> Below w.heap.size w w' -> P (.returned (.tuple #[v, .int .i64 0])) w') := fun v w' h1 h2 h3 h4 => by
  rw [<- hP]
  show (match unpP s.data.toList with | some L => _ | none => _) /\ _
  rw [unp_from, hF, if_pos ⟨h1, by rw [<- h2, bs_list]⟩]
  exact ⟨⟨v, rfl, h3⟩, h4⟩
 have HPn : Hid (∀ w', ¬ (RightG F /\ bs (bytesP F) = s) -> Below w.heap.size w w' -> P (.returned (.tuple #[.slice none 0 0, .int .i64 7])) w') := fun w' h1 h3 => by
  rw [<- hP]
  show (match unpP s.data.toList with | some L => _ | none => _) /\ _
  rw [unp_from, hF, if_neg fun h => h1 ⟨h.1, by rw [h.2]; rfl⟩]
  exact ⟨rfl, h3⟩
 have hFm := fAll_mem (doc := 0) (fLeap 0 s.data.toList).2.length (fLeap 0 s.data.toList).1 (fLeap 0 s.data.toList).2
 have hFl := (fLeap_le 0 s.data.toList).1
 have HFl : Hid (F.length <= 4000000) := by
  rw [<- hF]
  show (fAll _ _ _ _).length <= _
  omega
 have HFp : Hid (∀ p ∈ F, p.pos.length <= maxLen) := fun p hp => by
  rw [<- hF] at hp
  have := hFm.1 p hp
  unfold maxLen
  omega
 have CF := Lib.hid (fun W => pfrom_bytes s.data.toList hlen 0 W (by omega))
 rw [hsb, hF] at CF
 have CP := Lib.hid (fun v W (h : SlP W v F) => ppack_all F v W h (by have := HFl.out; unfold maxLen; omega) HFp.out)
 rw [hP]
 clear hP hF hFm hFl hlen hsb
 obtain ⟨Bm, hBm⟩ : ∃ Bm, w.heap.size = Bm := ⟨_, rfl⟩
 obtain ⟨W1, hW1⟩ : ∃ W1, w.alloc (.cells #[.slice none 0 0] 22) = W1 := ⟨_, rfl⟩
 have hs1 : W1.heap.size = Bm + 1 := by rw [<- hW1, <- hBm]; simp
 have hbW1 : Below w.heap.size w W1 := by rw [<- hW1]; exact (Below.refl _ w).alloc (Nat.le_refl _) _
 have ho1 : Boxed W1 w.heap.size 22 (.slice none 0 0) := by rw [<- hW1]; exact Boxed.new w _ _
 have HW1 := Lib.hid hW1
 have HO1 := Lib.hid ho1
 have HB1 := Lib.hid hbW1
 have HS1 := Lib.hid hs1
 have HBm := Lib.hid hBm
 clear hW1 ho1 hbW1 hs1
 refine (callsIn_wide (n := 9)).1 ?_
 refine callsIn_of_wp_marks Try.func15 rfl trivial ?_ rfl
 simp only [Try.ntmps15, List.size_toArray, List.length_cons, List.length_nil, Nat.reduceAdd, Nat.reduceSub, Array.replicate_succ, Array.replicate_zero, List.push_toArray, List.append_toArray, List.nil_append, List.cons_append]
 gi_wp2
 rw [HW1.out]
 refine ⟨trivial, ?_⟩
 gi_at_call 26
 refine (callsIn_wide.2 (CF.out W1)).mono ?_
 rintro e w2 ⟨⟨gf, lb, rfl, heg, hsq⟩, hb2⟩
 have HSq := Lib.hid hsq
 have HEg := Lib.hid heg
 have hFI : FU w F [] (.slice none 0 0) [] w2 := ⟨(hb2.block _ HO1.out.lt).trans HO1.out, rfl, Nat.zero_le _, fun j hj => absurd hj (Nat.not_lt_zero _), World.ownsRow_nil _ _ _ _, HB1.out.trans (hb2.mono HB1.out.size)⟩
 have hs2 : Bm + 1 <= w2.heap.size := by rw [<- HS1.out]; exact hb2.size
 have HFI := Lib.hid hFI
 clear hsq heg hFI hb2 CF
 gi_wp2
 refine range_up rfl HEg.out HSq.out kpp_t kpp_b (Below.refl _ _) rfl
  (fun us V => ∃ v vs, FU w F us v vs V)
  (fun _ _ _ => False) ?abI ?abX ⟨_, _, HFI.out⟩
  (fun N us u a' V => ∃ X ve, ∃ h : us.length < F.length, u = .agg #[.int .i64 F[us.length].doc, ve] /\ SlT V ve F[us.length].pos /\ V.heap[X]? = some (.cells #[.int .i64 F[us.length].doc, ve] 37 (0, 0)) /\ Bm < N /\ (∀ v, Boxed V Bm 22 v -> ∀ q, v.ownBlock = some q -> q < N) /\
   a' = { tmps := #[.string s, undef, .slice none 0 0, .int .i64 0, .pointer (some ⟨Bm, 0, none⟩), .pointer (some ⟨X, 0, none⟩), undef, undef, .string s, .func (.func gf) #[] lb, u, undef, undef, undef, undef, undef, undef, undef, undef, undef, undef, undef, undef, undef, undef, undef, undef, undef], defers := [] })
  ?axp ?assign ?body ?done ?stop
 case abI =>
  rintro us X Y ⟨v, vs, h⟩ hl
  exact ⟨v, vs, h.later (by rw [hBm]; omega) (fun u hu => hu) hl⟩
 case abX => exact fun _ _ _ _ h _ => h
 case axp =>
  rintro N us u a' V l' o o' hl ho hc ⟨X, ve, h1, h2, h3, h4, h5, h6, h7⟩
  have kb : ∀ {k : Nat} {cs : Array Value} {t : TypeId} {p : Nat × Nat}, V.heap[k]? = some (.cells cs t p) -> (V.putObj l' o').heap[k]? = some (.cells cs t p) := fun {k cs t p} hk => by
   rw [(grownBy_putObj' V l' o').block k (Array.getElem?_eq_some_iff.1 hk).1 (fun e => by cases e; rw [hk] at ho; cases ho; cases hc)]
   exact hk
  refine ⟨X, ve, h1, h2, h3.kept (fun k cs s hk => kb hk), kb h4, h5, fun v hv q hq => h6 v ?_ q hq, h7⟩
  have hlt : Bm < V.heap.size := by
   have := (Array.getElem?_eq_some_iff.1 ho).1
   omega
  exact ((grownBy_putObj' V l' o').block Bm hlt (fun e => by cases e; omega)).symm.trans hv
 case assign =>
  rintro l' us u W0 V R hk ⟨v0, vs0, h0⟩ hbe hw0 ⟨v, vs, h⟩ ⟨h1, ve, rfl, h2⟩ hR
  have h2' := h2
  obtain ⟨ea, ec, hve, -, -⟩ := h2'
  have hb : Below V.heap.size V (V.alloc (.cells #[.int .i64 F[us.length].doc, ve] 37)) := (Below.refl _ V).alloc (Nat.le_refl _) _
  have hbo : Boxed V w.heap.size 22 v0 := (hbe.block _ h0.bo.lt).trans h0.bo
  have hR2 := hR _ (V.alloc (.cells #[.int .i64 F[us.length].doc, ve] 37)) ((KeepsOthers.alloc _ _).from _) (kpp_below hb) (kept_below hb) ⟨v, vs, h.later (B := w2.heap.size) (us' := us) (by rw [hBm]; omega) (fun u hu => hu) (later_below hb)⟩
   ⟨V.heap.size, ve, h1, rfl, h2.kept (fun k cs s hk => (hb.block k (Array.getElem?_eq_some_iff.1 hk).1).trans hk), heap_newP V _, by omega, fun v' hv' q hq => by
    have e1 : Boxed (V.alloc (.cells #[.int .i64 F[us.length].doc, ve] 37)) Bm 22 v0 := by
     rw [<- hBm]
     exact (hb.block _ hbo.lt).trans hbo
    have e2 : v' = v0 := by
     have e3 : (V.alloc (.cells #[.int .i64 F[us.length].doc, ve] 37)).heap[Bm]? = some (.cells #[v'] 22 (0, 0)) := hv'
     have e4 : (V.alloc (.cells #[.int .i64 F[us.length].doc, ve] 37)).heap[Bm]? = some (.cells #[v0] 22 (0, 0)) := e1
     rw [e3] at e4
     injection e4 with e4
     injection e4 with e4 _ _
     simpa using e4
    rw [e2] at hq
    exact h0.lt hq, rfl⟩
  clear hR h2 hb
  subst hve
  gi_wp2
  exact hR2
 case body =>
  rintro l' N us u a' V hk ⟨v, vs, h⟩ ⟨X, ve, h1, rfl, h2, h3, h4, h5, rfl⟩
  have h2' := h2
  obtain ⟨ea, ec, hve0, -, -⟩ := h2'
  obtain ⟨pl, hve⟩ : ∃ pl, ve = .slice ea pl ec := ⟨_, hve0⟩
  clear hve0
  have hco := h.bo.cell
  have hfo := h.bo.frozen
  have hbo : Boxed V Bm 22 v := by rw [<- hBm]; exact h.bo
  have h6 := h5 v hbo
  clear h5
  have p00 : V.cell? ⟨X, 0, none⟩ = some (.int .i64 F[us.length].doc) := cell_atP h3 0
  have p1 : V.cell? ⟨X, 1, none⟩ = some ve := cell_atP h3 1
  rw [hBm] at hco hfo
  have hvs : ∃ va vc, v = .slice va us.length vc := by
   rcases h.row.2 with ⟨rfl, hn⟩ | ⟨g, cap, cur, rfl, _⟩
   ·exact ⟨none, 0, by rw [hn]⟩
   ·exact ⟨_, cap, rfl⟩
  have H := Lib.hid h
  have HFl5 := HFl.out
  have hFle := h.le
  have hvl := h.len
  have H1 := Lib.hid h1
  have H2 := Lib.hid h2
  obtain ⟨d, hdd⟩ : ∃ d, (F[us.length]'h1).doc = d := ⟨_, rfl⟩
  have HD := Lib.hid hdd
  have p0 : V.cell? ⟨X, 0, none⟩ = some (.int .i64 d) := by rw [<- hdd]; exact p00
  have hdd2 : Value.int .i64 (F[us.length]'h1).doc = .int .i64 d := by rw [hdd]
  simp only [hdd2]
  obtain ⟨va, vc, rfl⟩ := hvs
  have HApp : Hid (∀ (w1 : World) (v' : Value) (tmp : Obj), w1.ownsRow w.heap.size 37 2 v' (us.length + 1) (flatV (F.take us.length) vs ++ [.int .i64 d, ve]) -> (V.alloc tmp).grownBy w1 (Value.slice va us.length vc).ownBlock ->
    w1.cell? ⟨Bm, 0, none⟩ = some (.slice va us.length vc) /\ w1.frozen? ⟨Bm, 0, none⟩ = false /\ (∃ v vs, FU w F (us ++ [.agg #[.int .i64 d, ve]]) v vs (w1.setCell ⟨Bm, 0, none⟩ v')) /\ KeepsOthers V (w1.setCell ⟨Bm, 0, none⟩ v') /\ KpP V (w1.setCell ⟨Bm, 0, none⟩ v') /\ KeptIn N V (w1.setCell ⟨Bm, 0, none⟩ v')) := fun w1 v' tmp ho hg => by
   obtain ⟨q1, q2, q3, q4⟩ := H.out.app H1.out H2.out (by rw [HD.out]; exact ho) hg
   have c1 := q1.cell
   have c2 := q1.frozen
   rw [HD.out] at q2
   rw [HBm.out] at c1 c2 q2 q3 q4
   exact ⟨c1, c2, ⟨_, _, q2⟩, q3, q4, kept_app hg h4 h6⟩
  have hve1 : ve.oneCell' = true := by rw [hve]; rfl
  have hone : ∀ u ∈ [Value.int .i64 d, ve], u.oneCell' = true := fun u hu => by
   simp only [List.mem_cons, List.not_mem_nil, or_false] at hu
   rcases hu with rfl | rfl
   ·rfl
   ·exact hve1
  have HOne := Lib.hid hone
  clear h h2 h3 h6 hbo hdd hdd2 hone hve1 p00
  subst hve
  gi_wp2_with (first
   | (gi_at_builtin; refine wpListIn_append_own _ rfl _ _ 22 rfl w.heap.size 37 i1 (.agg #[.int .i64 0, .slice none 0 0]) 2 32 Try.underlying22 hj hy0 hy1 HY2.out rfl (by decide) _ _ _ rfl (H.out.row.alloc _) _ 1 1 [.int .i64 d, .slice ea pl ec] rfl rfl (two_cellP (by simp)) HOne.out (by unfold maxLen; omega) (by omega) (by have := H.out.below.size; simp; omega) ?_; intro v1 w6 hown hgrow _; obtain ⟨g', cap', rfl⟩ := own_succ hown; obtain ⟨y1, y2, y3, y4, y5, y6⟩ := HApp.out _ _ _ hown hgrow; have H3 := Lib.hid y3; have H4 := Lib.hid y4; have H5 := Lib.hid y5; have H6 := Lib.hid y6; clear y3 y4 y5 y6 hown hgrow))
  exact ⟨H4.out.from _, H5.out, H6.out, H3.out⟩
 case stop => exact fun _ _ _ _ _ h => h.elim
 case done =>
  rintro D us V hD hus ⟨v, vs, h⟩ hk
  have hc := h.bo.cell
  rw [hBm] at hc
  have hsl := h.sl.sl
  rw [List.take_of_length_le (by omega)] at hsl
  have HSl := Lib.hid hsl
  have HBl := Lib.hid h.below
  have HDz : Hid (w.heap.size <= D) := by have := hs2; show _ <= _; omega
  have HDl : Hid (D < V.heap.size) := (Array.getElem?_eq_some_iff.1 hk).1
  have hcl := h.bo.lt
  have HK := Lib.hid hk
  have CPv := Lib.hid (CP.out v V hsl)
  obtain ⟨va, vc, hv⟩ : ∃ va vc, v = .slice va F.length vc := by
   obtain ⟨va, vc, hv, _⟩ := hsl
   exact ⟨va, vc, hv⟩
  subst hv
  clear hsl h hus hk
  have HFin : Hid (∀ W, Below V.heap.size V W -> W.heap[D]? = some (.deferred (some [])) /\ SlP (W.putObj D (.deferred none)) (.slice va F.length vc) F /\ Below w.heap.size w (W.putObj D (.deferred none)) /\ W.cell? ⟨Bm, 0, none⟩ = some (.slice va F.length vc)) := fun W hW => by
   have hd : W.heap[D]? = some (.deferred (some [])) := (hW.block D HDl.out).trans HK.out
   have hbw : Below w.heap.size w W := HBl.out.trans (hW.mono HBl.out.size)
   exact ⟨hd, (HSl.out.below hW).put hd rfl, hbw.trans (belowK_b (w := w) (Nat.le_refl _) W D _ _ HDz.out hd rfl rfl), (hW.cell (p := ⟨Bm, 0, none⟩) (by rw [<- hBm]; exact hcl)).trans hc⟩
  by_cases hR : RightG F
  ·rw [if_pos hR] at CPv
   by_cases hE : bs (bytesP F) = s
   ·rw [hE] at CPv
    have HR := Lib.hid hR
    have HE := Lib.hid hE
    clear hE hR
    gi_wp2
    refine ⟨trivial, ?_⟩
    gi_at_call 11
    refine (callsIn_wide.2 CPv.out).mono ?_
    rintro e w4 ⟨rfl, hb4⟩
    obtain ⟨hd4, hs4, hw4, hc4⟩ := HFin.out w4 hb4
    have HD4 := Lib.hid hd4
    have HS4 := Lib.hid hs4
    have HW4 := Lib.hid hw4
    clear hd4 hs4 hw4 hb4 hc
    gi_wp2
    refine ⟨by simp, .inl ⟨_, _, rfl, run_takeDeferred HD4.out, ?_⟩⟩
    exact ⟨_, results_tmp2 (t := 2) (u := 3) rfl _ _ _, HPy.out _ _ HR.out HE.out HS4.out HW4.out⟩
   ·have HN : Hid (¬ (RightG F /\ bs (bytesP F) = s)) := fun h => hE h.2
    have hdf : ((bs (bytesP F)).toList == s.toList) = false := Fr.str_diff hE
    clear hE hR
    generalize bs (bytesP F) = T at *
    gi_wp2
    refine ⟨trivial, ?_⟩
    gi_at_call 11
    refine (callsIn_wide.2 CPv.out).mono ?_
    rintro e w4 ⟨rfl, hb4⟩
    obtain ⟨hd4, hs4, hw4, hc4⟩ := HFin.out w4 hb4
    have HD4 := Lib.hid hd4
    have HW4 := Lib.hid hw4
    clear hd4 hs4 hw4 hb4 hc
    gi_wp2
    refine ⟨by simp, .inl ⟨_, _, rfl, run_takeDeferred HD4.out, ?_⟩⟩
    exact ⟨_, results_tmp2 (t := 2) (u := 3) rfl _ _ _, HPn.out _ HN.out HW4.out⟩
  ·rw [if_neg hR] at CPv
   have HN : Hid (¬ (RightG F /\ bs (bytesP F) = s)) := fun h => hR h.1
   clear hR
   gi_wp2
   refine ⟨trivial, ?_⟩
   gi_at_call 11
   refine (callsIn_wide.2 CPv.out).mono ?_
   rintro e w4 ⟨rfl, hb4⟩
   obtain ⟨hd4, hs4, hw4, hc4⟩ := HFin.out w4 hb4
   have HD4 := Lib.hid hd4
   have HW4 := Lib.hid hw4
   clear hd4 hs4 hw4 hb4 hc
   gi_wp2
   refine ⟨by simp, .inl ⟨_, _, rfl, run_takeDeferred HD4.out, ?_⟩⟩
   exact ⟨_, results_tmp2 (t := 2) (u := 3) rfl _ _ _, HPn.out _ HN.out HW4.out⟩
end Go.Proofs.Ytjcajeilhcjneaa.Po
/- What the program's postings answer: Right, Pack, Unpack, Count, From. -/
namespace Go.Proofs.Ytjcajeilhcjneaa.Po
open Go.RowKit
open Fr (bs)
theorem ppack_any (L : List Pg) (v : Value) (w : World) (h : SlP w v L) (hn : L.length <= 100000) (hp : ∀ p ∈ L, p.pos.length <= maxLen) :
  Calls Try.prog 11 #[v] w fun e w' => e = .returned (if RightG L then .tuple #[.string (bs (bytesP L)), .int .i64 0] else .tuple #[.string ⟨#[]⟩, .int .i64 1]) /\ Below w.heap.size w w' :=
 ppack_all L v w h (by unfold maxLen; omega) hp
end Go.Proofs.Ytjcajeilhcjneaa.Po
/- What the statements' from answers: over the contracts. -/
set_option maxRecDepth 100000
namespace Go.Proofs.Ytjcajeilhcjneaa.Po
open Go.RowKit Go.Shelf
open Fr (bs)
attribute [local go_sem] Oper.semAt_some
structure FI (w : World) (F : List Pg) (most : Int) (us : List Value) (v : Value) (vs : List Value) (V : World) : Prop where
 bm : Boxed V w.heap.size 3 (.int .i64 most)
 bo : Boxed V (w.heap.size + 1) 22 v
 len : vs.length = us.length
 le : us.length <= F.length
 each : ∀ j (hj : j < us.length), us[j] = .agg #[.int .i64 (F[j]'(by omega)).doc, vs[j]'(by omega)] /\ SlT V (vs[j]'(by omega)) (F[j]'(by omega)).pos
 row : V.ownsRow w.heap.size 37 2 v us.length (flatV (F.take us.length) vs)
 below : Below w.heap.size w V
theorem FI.later {w : World} {F : List Pg} {most : Int} {us us' : List Value} {v : Value} {vs : List Value} {V V' : World} {B : Nat} (h : FI w F most us v vs V) (hB : w.heap.size + 1 < B) (hs : ∀ u ∈ us, u ∈ us') (hl : Later OkP PtsP B us' V V') : FI w F most us v vs V' := by
 have low : ∀ {k : Nat} {o : Obj}, k < B -> V.heap[k]? = some o -> V'.heap[k]? = some o := fun {k o} hk ho => by
  rcases hl.block k (Array.getElem?_eq_some_iff.1 ho).1 with e | ⟨e, _⟩
  ·exact e.trans ho
  ·omega
 refine ⟨low (by omega) h.bm, low hB h.bo, h.len, h.le, fun j hj => ?_, ?_, ⟨hl.os.trans h.below.os, hl.tape.trans h.below.tape, hl.output.trans h.below.output, Nat.le_trans h.below.size hl.size, fun k hk => ?_⟩⟩
 ·obtain ⟨e1, e2⟩ := h.each j hj
  refine ⟨e1, ?_⟩
  obtain ⟨ao, c, hv, hlc, hc⟩ := e2
  refine ⟨ao, c, hv, hlc, fun i hi => ?_⟩
  obtain ⟨g, off, cs, s, e, hg, h1⟩ := hc i hi
  refine ⟨g, off, cs, s, e, ?_, h1⟩
  rcases hl.block g (Array.getElem?_eq_some_iff.1 hg).1 with q | ⟨_, o, ho, ho2⟩
  ·exact q.trans hg
  ·rw [hg] at ho
   cases ho
   rcases ho2 with ho2 | ⟨_, ho2⟩
   ·cases ho2
   ·exact absurd ⟨_, _, _, _, by rw [e1, hv, e], rfl⟩ (ho2 us[j] (hs _ (List.getElem_mem hj)))
 ·refine ⟨h.row.1, ?_⟩
  rcases h.row.2 with hn | ⟨g, cap, cur, e, hbg, hg, rest⟩
  ·exact .inl hn
  ·refine .inr ⟨g, cap, cur, e, hbg, ?_, rest⟩
   rcases hl.block g (Array.getElem?_eq_some_iff.1 hg).1 with q | ⟨_, o, ho, ho2⟩
   ·exact q.trans hg
   ·rw [hg] at ho
    cases ho
    rcases ho2 with ho2 | ⟨⟨cs, t, s, h1, _, h3⟩, _⟩
    ·cases ho2
    ·injection h3 with _ h3 _
     exact absurd h3.symm h1
 ·have hk' := h.below.size
  have := low (k := k) (o := V.heap[k]'(by omega)) (by omega) (by simp)
  rw [this, <- h.below.block k hk]
  simp
theorem FI.sl {w : World} {F : List Pg} {most : Int} {us : List Value} {v : Value} {vs : List Value} {V : World} (h : FI w F most us v vs V) : SlQ w.heap.size V v (F.take us.length) := by
 have hl : (F.take us.length).length = us.length := by rw [List.length_take]; have := h.le; omega
 have hO := h.row
 rcases h.row.2 with ⟨hv, hn⟩ | ⟨g, cap, cur, hv, hbg, hg, hc, _⟩
 ·exact ⟨none, 0, by rw [hv, hl, hn], by omega, fun j hj => absurd hj (by omega)⟩
 ·subst hv
  refine ⟨_, cap, by rw [hl], by omega, fun j hj => ⟨g, 0, vs[j]'(by have := h.len; omega), rfl, hbg, (Array.getElem?_eq_some_iff.1 hg).1, ?_, ?_, ?_⟩⟩
  ·rw [Nat.zero_add, World.ownsRow.cellAt hO (j * 2) (by omega)]
   exact (flatV_get (F.take us.length) vs j (by rw [hl]; exact h.len) hj).1
  ·rw [Nat.zero_add, World.ownsRow.cellAt hO (j * 2 + 1) (by omega)]
   exact (flatV_get (F.take us.length) vs j (by rw [hl]; exact h.len) hj).2
  ·rw [List.getElem_take]
   exact (h.each j (by omega)).2
theorem FI.app {w : World} {F : List Pg} {most : Int} {us : List Value} {v v' ve : Value} {vs : List Value} {V w1 : World} {tmp : Obj} (h : FI w F most us v vs V) (h1 : us.length < F.length) (h2 : SlT V ve F[us.length].pos)
  (hown : w1.ownsRow w.heap.size 37 2 v' (us.length + 1) (flatV (F.take us.length) vs ++ [.int .i64 F[us.length].doc, ve])) (hgrow : (V.alloc tmp).grownBy w1 v.ownBlock) :
  Boxed w1 (w.heap.size + 1) 22 v /\ FI w F most (us ++ [.agg #[.int .i64 F[us.length].doc, ve]]) v' (vs ++ [ve]) (w1.setCell ⟨w.heap.size + 1, 0, none⟩ v') /\ KeepsOthers V (w1.setCell ⟨w.heap.size + 1, 0, none⟩ v') /\ KpP V (w1.setCell ⟨w.heap.size + 1, 0, none⟩ v') := by
 obtain ⟨a1, a2, a3, a4, a5⟩ := h.bo.appended (by decide) h.row h.below.size (Nat.le_succ _) hown hgrow
 have keepO : ∀ (k : Nat) (cs : Array Value) (t : TypeId) (s : Nat × Nat), t ≠ 37 -> t ≠ 22 -> V.heap[k]? = some (Obj.cells cs t s) -> (w1.setCell ⟨w.heap.size + 1, 0, none⟩ v').heap[k]? = some (Obj.cells cs t s) := fun k cs t s ht1 ht2 hk => by
  have hlt : k < V.heap.size := (Array.getElem?_eq_some_iff.1 hk).1
  have e1 : (V.alloc tmp).heap[k]? = some (Obj.cells cs t s) := by
   rw [((Below.refl _ V).alloc (Nat.le_refl _) tmp).block k hlt]; exact hk
  have e2 : w1.heap[k]? = some (Obj.cells cs t s) := by
   rw [hgrow.block k (by rw [World.size_alloc]; omega) (fun e => ?_)]
   ·exact e1
   ·rcases h.row.2 with ⟨rfl, _⟩ | ⟨g, cap, cur, rfl, _, hg, _⟩
    ·cases e
    ·have : k = g := by injection e
     subst this
     rw [hk] at hg
     injection hg with hg
     injection hg with _ hg _
     exact ht1 hg
  rw [(grownBy_setCell' w1 (w.heap.size + 1) v').block k (Array.getElem?_eq_some_iff.1 e2).1 (fun e => ?_)]
  ·exact e2
  ·have : k = w.heap.size + 1 := by injection e
   subst this
   have a1' : w1.heap[w.heap.size + 1]? = _ := a1
   rw [e2] at a1'
   injection a1' with a1'
   injection a1' with _ a1' _
   exact ht2 a1'
 refine ⟨a1, ⟨keepO _ _ _ _ (by decide) (by decide) h.bm, a2, by rw [List.length_append, List.length_append, h.len]; rfl, by rw [List.length_append, List.length_singleton]; omega, fun j hj => ?_, ?_, h.below.trans a5⟩, a4, a4.size, keepO⟩
 ·rw [List.length_append, List.length_singleton] at hj
  have hvl := h.len
  by_cases hjM : j < us.length
  ·obtain ⟨e1, e2⟩ := h.each j hjM
   rw [List.getElem_append_left hjM, List.getElem_append_left (by omega)]
   exact ⟨e1, e2.kept fun k cs s hk => keepO k cs _ s (by decide) (by decide) hk⟩
  ·obtain rfl : j = us.length := by omega
   have e1 : (vs ++ [ve])[us.length]'(by rw [List.length_append, hvl]; simp) = ve := by rw [List.getElem_append_right (by omega)]; simp [hvl]
   rw [e1, List.getElem_append_right (Nat.le_refl _)]
   refine ⟨by simp, h2.kept fun k cs s hk => keepO k cs _ s (by decide) (by decide) hk⟩
 ·rw [List.length_append, List.length_singleton, List.take_succ_eq_append_getElem h1, flatV_snoc _ _ _ _ (by rw [List.length_take, h.len]; omega)]
  exact a3
theorem func_nil (gf : Nat) (lb : Array Value) (W : World) : (binOp .eql 49 (.func (.func gf) #[] lb) .nilFunc).run Try.prog W = .ok (.bool false) W := by
 first | rfl | kernel_rfl
set_option maxHeartbeats 8000000 in
theorem from_any (L : List Pg) (hR : RightG L) (doc most : Int) (w : World) (hd : -9223372036854775808 <= doc /\ doc <= 9223372036854775807) (hm : 0 <= most) :
  Calls Try.prog 20 #[.string (bs (bytesP L)), .int .i64 doc, .int .i64 most] w fun e w' => ∃ v, e = .returned v /\ SlQ w.heap.size w' v ((fromL L doc).take most.toNat) /\ Below w.heap.size w w' := by
 obtain ⟨i1, hj, hy0, hy1, hy2⟩ := info_parts infoPo
 have HY2 := Lib.hid hy2; clear hy2
 have CF := Lib.hid (fun W => pfrom_any L hR doc W hd)
 have HFl : Hid ((fromL L doc).length <= 500) := by
  have h1 := right_len hR
  have h2 := List.length_filter_le (fun p : Pg => decide (doc <= p.doc)) L
  show (L.filter _).length <= _
  omega
 generalize bs (bytesP L) = s at *
 generalize fromL L doc = F at *
 obtain ⟨Bm, hBm⟩ : ∃ Bm, w.heap.size = Bm := ⟨_, rfl⟩
 obtain ⟨W1, hW1⟩ : ∃ W1, (w.alloc (.cells #[.int .i64 most] 3)).alloc (.cells #[.slice none 0 0] 22) = W1 := ⟨_, rfl⟩
 have hs1 : W1.heap.size = Bm + 1 + 1 := by rw [<- hW1, <- hBm]; simp
 have hbW1 : Below w.heap.size w W1 := by rw [<- hW1]; exact ((Below.refl _ w).alloc (Nat.le_refl _) _).alloc (by simp) _
 have hm1 : Boxed W1 w.heap.size 3 (.int .i64 most) := by rw [<- hW1]; exact (Boxed.new w _ _).alloc _
 have ho1 : Boxed W1 (w.heap.size + 1) 22 (.slice none 0 0) := by
  have := Boxed.new (w.alloc (.cells #[.int .i64 most] 3)) 22 (.slice none 0 0)
  rw [hW1, World.size_alloc] at this
  exact this
 have HW1 := Lib.hid hW1
 have HM1 := Lib.hid hm1
 have HO1 := Lib.hid ho1
 have HB1 := Lib.hid hbW1
 have HS1 := Lib.hid hs1
 have HBm := Lib.hid hBm
 clear hW1 hm1 ho1 hbW1 hs1 hR
 refine (callsIn_wide (n := 9)).1 ?_
 refine callsIn_of_wp_marks Try.func20 rfl trivial ?_ rfl
 simp only [Try.ntmps20, List.size_toArray, List.length_cons, List.length_nil, Nat.reduceAdd, Nat.reduceSub, Array.replicate_succ, Array.replicate_zero, List.push_toArray, List.append_toArray, List.nil_append, List.cons_append]
 gi_wp2
 rw [HW1.out]
 refine ⟨trivial, ?_⟩
 gi_at_call 26
 refine (callsIn_wide.2 (CF.out W1)).mono ?_
 rintro e w2 ⟨⟨gf, lb, rfl, heg, hsq⟩, hb2⟩
 have HSq := Lib.hid hsq
 have HEg := Lib.hid heg
 have hFI : FI w F most [] (.slice none 0 0) [] w2 := ⟨(hb2.block _ HM1.out.lt).trans HM1.out, (hb2.block _ HO1.out.lt).trans HO1.out, rfl, Nat.zero_le _, fun j hj => absurd hj (Nat.not_lt_zero _), World.ownsRow_nil _ _ _ _, HB1.out.trans (hb2.mono HB1.out.size)⟩
 have hs2 : Bm + 1 + 1 <= w2.heap.size := by rw [<- HS1.out]; exact hb2.size
 have HFI := Lib.hid hFI
 clear hsq heg hFI hb2 CF
 have hfn := func_nil gf lb w2
 gi_wp2
 clear hfn
 refine range_up rfl HEg.out HSq.out kpp_t kpp_b (Below.refl _ _) rfl
  (fun us V => (us.length : Int) <= most /\ ∃ v vs, FI w F most us v vs V)
  (fun c us' V => c = .exit 0 /\ ∃ us u v vs, us' = us ++ [u] /\ (us.length : Int) = most /\ FI w F most us v vs V) ?abI ?abX ⟨hm, _, _, HFI.out⟩
  (fun N us u a' V => ∃ Bp ve, ∃ h : us.length < F.length, u = .agg #[.int .i64 F[us.length].doc, ve] /\ SlT V ve F[us.length].pos /\ V.heap[Bp]? = some (.cells #[.int .i64 F[us.length].doc, ve] 37 (0, 0)) /\ Bm + 1 < N /\ (∀ v, Boxed V (Bm + 1) 22 v -> ∀ q, v.ownBlock = some q -> q < N) /\
   a' = { tmps := #[.string s, .int .i64 doc, .int .i64 most, undef, undef, .pointer (some ⟨Bm, 0, none⟩), .slice none 0 0, .pointer (some ⟨Bm + 1, 0, none⟩), .func (.func gf) #[] lb, .pointer (some ⟨Bp, 0, none⟩), .string s, .int .i64 doc, .func (.func gf) #[] lb, .func (.func gf) #[] lb, .bool false, .func (.func gf) #[] lb, u, undef, undef, undef, undef, undef, undef, undef, undef, undef], defers := [] })
  ?axp ?assign ?body ?done ?stop
 case abI =>
  rintro us X Y ⟨hlm, v, vs, h⟩ hl
  exact ⟨hlm, v, vs, h.later (by rw [hBm]; omega) (fun u hu => hu) hl⟩
 case abX =>
  rintro c us' X Y ⟨hc, us, u, v, vs, rfl, h1, h⟩ hl
  exact ⟨hc, us, u, v, vs, rfl, h1, h.later (by rw [hBm]; omega) (fun u hu => List.mem_append_left _ hu) hl⟩
 case axp =>
  rintro N us u a' V l' o o' hl ho hc ⟨Bp, ve, h1, h2, h3, h4, h5, h6, h7⟩
  have kb : ∀ {k : Nat} {cs : Array Value} {t : TypeId} {p : Nat × Nat}, V.heap[k]? = some (.cells cs t p) -> (V.putObj l' o').heap[k]? = some (.cells cs t p) := fun {k cs t p} hk => by
   rw [(grownBy_putObj' V l' o').block k (Array.getElem?_eq_some_iff.1 hk).1 (fun e => by cases e; rw [hk] at ho; cases ho; cases hc)]
   exact hk
  refine ⟨Bp, ve, h1, h2, h3.kept (fun k cs s hk => kb hk), kb h4, h5, fun v hv q hq => h6 v ?_ q hq, h7⟩
  have hlt : Bm + 1 < V.heap.size := by
   have := (Array.getElem?_eq_some_iff.1 ho).1
   omega
  exact ((grownBy_putObj' V l' o').block (Bm + 1) hlt (fun e => by cases e; omega)).symm.trans hv
 case assign =>
  rintro l' us u W0 V R hk ⟨hlm0, v0, vs0, h0⟩ hbe hw0 ⟨hlm, v, vs, h⟩ ⟨h1, ve, rfl, h2⟩ hR
  have hbo : Boxed V (w.heap.size + 1) 22 v0 := (hbe.block _ h0.bo.lt).trans h0.bo
  have h2' := h2
  obtain ⟨ea, ec, hve, -, -⟩ := h2'
  have hb : Below V.heap.size V (V.alloc (.cells #[.int .i64 F[us.length].doc, ve] 37)) := (Below.refl _ V).alloc (Nat.le_refl _) _
  have hR2 := hR _ (V.alloc (.cells #[.int .i64 F[us.length].doc, ve] 37)) ((KeepsOthers.alloc _ _).from _) (kpp_below hb) (kept_below hb) ⟨hlm, v, vs, h.later (B := w2.heap.size) (us' := us) (by rw [hBm]; omega) (fun u hu => hu) (later_below hb)⟩
   ⟨V.heap.size, ve, h1, rfl, h2.kept (fun k cs s hk => (hb.block k (Array.getElem?_eq_some_iff.1 hk).1).trans hk), heap_newP V _, by omega, fun v' hv' q hq => by
    have e1 : Boxed (V.alloc (.cells #[.int .i64 F[us.length].doc, ve] 37)) (Bm + 1) 22 v0 := by
     rw [<- hBm]
     exact (hb.block _ hbo.lt).trans hbo
    have e2 : v' = v0 := by
     have e3 : (V.alloc (.cells #[.int .i64 F[us.length].doc, ve] 37)).heap[Bm + 1]? = some (.cells #[v'] 22 (0, 0)) := hv'
     have e4 : (V.alloc (.cells #[.int .i64 F[us.length].doc, ve] 37)).heap[Bm + 1]? = some (.cells #[v0] 22 (0, 0)) := e1
     rw [e3] at e4
     injection e4 with e4
     injection e4 with e4 _ _
     simpa using e4
    rw [e2] at hq
    exact (World.ownsRow.lt h0.row q hq).2, rfl⟩
  clear hR h2 hb
  subst hve
  gi_wp2
  exact hR2
 case body =>
  rintro l' N us u a' V hk ⟨hlm, v, vs, h⟩ ⟨Bp, ve, h1, rfl, h2, h3, h4, h5, rfl⟩
  have h6 := h5 v (by rw [<- hBm]; exact h.bo)
  clear h5
  have h2' := h2
  obtain ⟨ea, ec, hve0, -, -⟩ := h2'
  obtain ⟨pl, hve⟩ : ∃ pl, ve = .slice ea pl ec := ⟨_, hve0⟩
  clear hve0
  have hcm := h.bm.cell
  have hco := h.bo.cell
  have hfo := h.bo.frozen
  have p00 : V.cell? ⟨Bp, 0, none⟩ = some (.int .i64 F[us.length].doc) := cell_atP h3 0
  have p1 : V.cell? ⟨Bp, 1, none⟩ = some ve := cell_atP h3 1
  rw [hBm] at hcm hco hfo
  have hvs : ∃ va vc, v = .slice va us.length vc := by
   rcases h.row.2 with ⟨rfl, hn⟩ | ⟨g, cap, cur, rfl, _⟩
   ·exact ⟨none, 0, by rw [hn]⟩
   ·exact ⟨_, cap, rfl⟩
  have H := Lib.hid h
  have HFl5 := HFl.out
  have hFle := h.le
  have hvl := h.len
  by_cases he : (us.length : Int) = most
  ·have HX : Hid (∃ us' u' v vs, us ++ [Value.agg #[.int .i64 F[us.length].doc, ve]] = us' ++ [u'] /\ (us'.length : Int) = most /\ FI w F most us' v vs V) := ⟨us, _, v, vs, rfl, he, h⟩
   have heb : ((us.length : Int) == most) = true := by rw [he]; simp
   clear h h2 h3 p00 p1 hFle hvl
   obtain ⟨va, vc, rfl⟩ := hvs
   gi_wp2
   exact ⟨KeepsFrom.refl _ _, rfl, HX.out⟩
  ·have heb : ((us.length : Int) == most) = false := beq_eq_false_iff_ne.2 he
   have H1 := Lib.hid h1
   have H2 := Lib.hid h2
   obtain ⟨d, hdd⟩ : ∃ d, (F[us.length]'h1).doc = d := ⟨_, rfl⟩
   have HD := Lib.hid hdd
   have p0 : V.cell? ⟨Bp, 0, none⟩ = some (.int .i64 d) := by rw [<- hdd]; exact p00
   have hdd2 : Value.int .i64 (F[us.length]'h1).doc = .int .i64 d := by rw [hdd]
   simp only [hdd2]
   obtain ⟨va, vc, rfl⟩ := hvs
   have HApp : Hid (∀ (w1 : World) (v' : Value) (tmp : Obj), w1.ownsRow w.heap.size 37 2 v' (us.length + 1) (flatV (F.take us.length) vs ++ [.int .i64 d, ve]) -> (V.alloc tmp).grownBy w1 (Value.slice va us.length vc).ownBlock ->
     w1.cell? ⟨Bm + 1, 0, none⟩ = some (.slice va us.length vc) /\ w1.frozen? ⟨Bm + 1, 0, none⟩ = false /\ (∃ v vs, FI w F most (us ++ [.agg #[.int .i64 d, ve]]) v vs (w1.setCell ⟨Bm + 1, 0, none⟩ v')) /\ KeepsOthers V (w1.setCell ⟨Bm + 1, 0, none⟩ v') /\ KpP V (w1.setCell ⟨Bm + 1, 0, none⟩ v') /\ KeptIn N V (w1.setCell ⟨Bm + 1, 0, none⟩ v')) := fun w1 v' tmp ho hg => by
    obtain ⟨q1, q2, q3, q4⟩ := H.out.app H1.out H2.out (by rw [HD.out]; exact ho) hg
    have c1 := q1.cell
    have c2 := q1.frozen
    rw [HD.out] at q2
    rw [HBm.out] at c1 c2 q2 q3 q4
    exact ⟨c1, c2, ⟨_, _, q2⟩, q3, q4, kept_app hg h4 h6⟩
   have hve1 : ve.oneCell' = true := by rw [hve]; rfl
   have hone : ∀ u ∈ [Value.int .i64 d, ve], u.oneCell' = true := fun u hu => by
    simp only [List.mem_cons, List.not_mem_nil, or_false] at hu
    rcases hu with rfl | rfl
    ·rfl
    ·exact hve1
   have HOne := Lib.hid hone
   clear h h2 h3 h6 hdd hdd2 hone hve1 p00
   subst hve
   gi_wp2_with (first
    | (gi_at_builtin; refine wpListIn_append_own _ rfl _ _ 22 rfl w.heap.size 37 i1 (.agg #[.int .i64 0, .slice none 0 0]) 2 32 Try.underlying22 hj hy0 hy1 HY2.out rfl (by decide) _ _ _ rfl (H.out.row.alloc _) _ 1 1 [.int .i64 d, .slice ea pl ec] rfl rfl (two_cellP (by simp)) HOne.out (by unfold maxLen; omega) (by omega) (by have := H.out.below.size; simp; omega) ?_; intro v1 w6 hown hgrow _; obtain ⟨g', cap', rfl⟩ := own_succ hown; obtain ⟨y1, y2, y3, y4, y5, y6⟩ := HApp.out _ _ _ hown hgrow; have H3 := Lib.hid y3; have H4 := Lib.hid y4; have H5 := Lib.hid y5; have H6 := Lib.hid y6; clear y3 y4 y5 y6 hown hgrow))
   exact ⟨H4.out.from _, H5.out, H6.out, by rw [List.length_append, List.length_singleton]; omega, H3.out⟩
 case done =>
  rintro D us V hD hus ⟨hlm, v, vs, h⟩ hk
  have hc := h.bo.cell
  rw [hBm] at hc
  have hsl := h.sl
  rw [show F.take us.length = F.take most.toNat by rw [List.take_of_length_le (by omega), List.take_of_length_le (by omega)]] at hsl
  have HSl := Lib.hid (hsl.put (l := D) (o' := .deferred none) hk rfl)
  have HBl := Lib.hid h.below
  have HD : Hid (w.heap.size <= D) := by have := hs2; show _ <= _; omega
  clear hsl h hus
  gi_wp2
  refine ⟨by simp, .inl ⟨_, _, rfl, run_takeDeferred hk, ?_⟩⟩
  exact ⟨_, results_tmp rfl _ _ _, v, rfl, HSl.out, HBl.out.trans (belowK_b (w := w) (Nat.le_refl _) V D _ _ HD.out hk rfl rfl)⟩
 case stop =>
  rintro D c us' V hD ⟨rfl, us, u, v, vs, rfl, he, h⟩ hk
  have hc := h.bo.cell
  rw [hBm] at hc
  have hsl := h.sl
  rw [show us.length = most.toNat by omega] at hsl
  have HSl := Lib.hid (hsl.put (l := D) (o' := .deferred none) hk rfl)
  have HBl := Lib.hid h.below
  have HD : Hid (w.heap.size <= D) := by have := hs2; show _ <= _; omega
  clear hsl h
  gi_wp2
  refine ⟨by simp, .inl ⟨_, _, rfl, run_takeDeferred hk, ?_⟩⟩
  exact ⟨_, results_tmp rfl _ _ _, v, rfl, HSl.out, HBl.out.trans (belowK_b (w := w) (Nat.le_refl _) V D _ _ HD.out hk rfl rfl)⟩
end Go.Proofs.Ytjcajeilhcjneaa.Po
/- The chapter's examples: over the contracts. -/
set_option maxRecDepth 100000
namespace Go.Proofs.Ytjcajeilhcjneaa.Po
open Go.RowKit
open Fr (bs)
def exL : List Pg := [⟨0, [1, 4]⟩, ⟨3, [0]⟩]
theorem ex_right : RightG exL := by decide
theorem ex_bytes : bs (bytesP exL) = ⟨#[2, 1, 2, 2, 3, 3, 1, 1]⟩ := by unfold exL; rw [ex_pack]; rfl
theorem ex_nil : bs (bytesP []) = ⟨#[0]⟩ := by decide +kernel
theorem ex_bad : unpP (⟨#[1, 1, 0]⟩ : ByteArray).data.toList = none := by decide +kernel
theorem ex_from : (fromL exL 1).take (9 : Int).toNat = [⟨3, [0]⟩] := by decide
theorem slI_lit {W : World} {g : Nat} {cs : Array Value} {t : TypeId} {s : Nat × Nat} (L : List Int) (h : W.heap[g]? = some (.cells cs t s)) (hc : cs.toList = L.map fun x => .int .i64 x) : SlI W (.slice (some ⟨g, 0, none⟩) L.length L.length) L := by
 refine ⟨_, _, rfl, Nat.le_refl _, fun j hj => ⟨g, 0, rfl, (Array.getElem?_eq_some_iff.1 h).1, ?_⟩⟩
 rw [Nat.zero_add, cell_atP h, <- Array.getElem?_toList, hc]
 simp [hj]
theorem slP_nil (W : World) : SlP W (.slice none 0 0) [] := ⟨none, 0, rfl, Nat.le_refl _, fun j hj => absurd hj (Nat.not_lt_zero _)⟩
set_option maxHeartbeats 4000000 in
theorem shown12_any (w : World) : Calls Try.prog 9 #[] w fun e w' => e = .returned (.bool true) /\ Below w.heap.size w w' := by
 obtain ⟨W3, hW3⟩ : ∃ W3, ((w.alloc (.cells #[.int .i64 1, .int .i64 4] 3)).alloc (.cells #[.int .i64 0] 3)).alloc (.cells #[.int .i64 0, .slice (some ⟨w.heap.size, 0, none⟩) 2 2, .int .i64 3, .slice (some ⟨w.heap.size + 1, 0, none⟩) 1 1] 37) = W3 := ⟨_, rfl⟩
 obtain ⟨B, hB⟩ : ∃ B, w.heap.size = B := ⟨_, rfl⟩
 have hb3 : Below w.heap.size w W3 := by rw [<- hW3]; exact (((Below.refl _ w).alloc (Nat.le_refl _) _).alloc (by simp) _).alloc (by simp; omega) _
 have k1 : W3.heap[B]? = some (.cells #[.int .i64 1, .int .i64 4] 3 (0, 0)) := by
  rw [<- hW3, ((Below.refl _ _).alloc (Nat.le_refl _) _).block B (by simp; omega), ((Below.refl _ _).alloc (Nat.le_refl _) _).block B (by simp; omega), <- hB]
  exact heap_newP w _
 have k2 : W3.heap[B + 1]? = some (.cells #[.int .i64 0] 3 (0, 0)) := by
  rw [<- hW3, ((Below.refl _ _).alloc (Nat.le_refl _) _).block (B + 1) (by simp; omega)]
  have := heap_newP (w.alloc (.cells #[.int .i64 1, .int .i64 4] 3)) (.cells #[.int .i64 0] 3)
  rwa [World.size_alloc, hB] at this
 have k3 : W3.heap[B + 1 + 1]? = some (.cells #[.int .i64 0, .slice (some ⟨B, 0, none⟩) 2 2, .int .i64 3, .slice (some ⟨B + 1, 0, none⟩) 1 1] 37 (0, 0)) := by
  rw [<- hW3, hB]
  have := heap_newP ((w.alloc (.cells #[.int .i64 1, .int .i64 4] 3)).alloc (.cells #[.int .i64 0] 3)) (.cells #[.int .i64 0, .slice (some ⟨B, 0, none⟩) 2 2, .int .i64 3, .slice (some ⟨B + 1, 0, none⟩) 1 1] 37)
  rwa [World.size_alloc, World.size_alloc, hB] at this
 have k3l := (Array.getElem?_eq_some_iff.1 k3).1
 have s1 : SlP W3 (.slice (some ⟨B + 1 + 1, 0, none⟩) 2 2) exL := by
  refine ⟨_, _, rfl, Nat.le_refl _, fun j hj => ?_⟩
  match j, hj with
  | 0, _ => exact ⟨B + 1 + 1, 0, _, rfl, k3l, cell_atP k3 0, cell_atP k3 1, slI_lit [1, 4] k1 rfl⟩
  | 1, _ => exact ⟨B + 1 + 1, 0, _, rfl, k3l, cell_atP k3 2, cell_atP k3 3, slI_lit [0] k2 rfl⟩
 have s2 : SlP W3 (.slice (some ⟨B + 1 + 1, 2, none⟩) 1 1) [⟨3, [0]⟩] := by
  refine ⟨_, _, rfl, Nat.le_refl _, fun j hj => ?_⟩
  match j, hj with
  | 0, _ => exact ⟨B + 1 + 1, 2, _, rfl, k3l, cell_atP k3 2, cell_atP k3 3, slI_lit [0] k2 rfl⟩
 have S1 := Lib.hid s1
 have S2 := Lib.hid s2
 rw [hB] at hW3
 have HW3 := Lib.hid hW3
 have HB3 := Lib.hid hb3
 have C1 := Lib.hid (ppack_any exL _ W3 s1 (by decide) (by decide))
 rw [if_pos ex_right, ex_bytes] at C1
 have C2 := Lib.hid (fun W => ppack_any [] (.slice none 0 0) W (slP_nil W) (by decide) (by intro p hp; cases hp))
 simp only [if_pos (show RightG [] by decide), ex_nil] at C2
 have C3 := Lib.hid (fun W => punpack_any ⟨#[1, 1, 0]⟩ W (by decide))
 have C3 : Hid (∀ W, Calls Try.prog 15 #[.string ⟨#[1, 1, 0]⟩] W fun e w' => e = .returned (.tuple #[.slice none 0 0, .int .i64 7]) /\ Below W.heap.size W w') := fun W => by
  have := C3.out W
  rw [ex_bad] at this
  exact this
 have C4 := Lib.hid (fun W => from_any exL ex_right 1 9 W (by omega) (by omega))
 rw [ex_bytes, ex_from] at C4
 have C5 := Lib.hid (fun W => pcount_any exL ex_right W)
 rw [ex_bytes] at C5
 have D1 := Lib.hid (fun va W h1 (hW : Below W3.heap.size W3 W) => same_any [⟨3, [0]⟩] va (.slice (some ⟨B + 1 + 1, 2, none⟩) 1 1) W h1 (s2.below hW) (by decide) (by decide))
 clear s1 s2 hW3 hb3 k1 k2 k3 k3l
 go_enter Try.func9, Try.ntmps9
 go_wp2_with fail
 rw [HW3.out]
 refine C1.out.mono ?_
 rintro e w1 ⟨rfl, hb1⟩
 have H1 := Lib.hid hb1
 clear hb1
 go_wp2_with fail
 refine (C2.out _).mono ?_
 rintro e w2 ⟨rfl, hb2⟩
 have H2 : Hid (Below W3.heap.size W3 w2) := H1.out.trans (hb2.mono H1.out.size)
 clear hb2
 go_wp2_with fail
 refine (C3.out _).mono ?_
 rintro e w3 ⟨rfl, hb3⟩
 have H3 : Hid (Below W3.heap.size W3 w3) := H2.out.trans (hb3.mono H2.out.size)
 clear hb3
 go_wp2_with fail
 have HKp : Hid (∀ W W' : World, Below W3.heap.size W3 W -> Below W.heap.size W W' -> Below W3.heap.size W3 W') := fun W W' h1 h2 => h1.trans (h2.mono h1.size)
 go_region_held3 (fun W : World => Below W3.heap.size W3 W)
  (first | exact H3.out.drew | exact HKp.out _ _ (by assumption) (by assumption))
  (first
   | (go_at_call 20; refine (C4.out _).mono ?_; rintro e w' ⟨v4, rfl, hr4, hb4⟩; have hr4 := hr4.sl)
   | (go_at_call 17; refine (D1.out _ _ hr4 (HKp.out _ _ H3.out.drew hb4)).mono ?_; rintro e w' ⟨rfl, hb5⟩))
 rename_i hHeld
 have H6 : Hid (Below W3.heap.size W3 w') := hHeld
 clear hHeld hr4 hb4 hb5
 have q1 : ((exL.length : Nat) : Int) = 2 := rfl
 rw [q1] at C5
 have q2 : ((⟨#[2, 1, 2, 2, 3, 3, 1, 1]⟩ : ByteArray).toList == (⟨#[2, 1, 2, 2, 3, 3, 1, 1]⟩ : ByteArray).toList) = true := by simp
 have q3 : ((⟨#[0]⟩ : ByteArray).toList == (⟨#[0]⟩ : ByteArray).toList) = true := by simp
 go_wp2_with fail
 refine (C5.out _).mono ?_
 rintro e w6 ⟨rfl, hb6⟩
 have H7 : Hid (Below W3.heap.size W3 w6) := H6.out.trans (hb6.mono H6.out.size)
 clear hb6
 go_wp2_with fail
 go_ret
 exact ⟨rfl, HB3.out.trans (H7.out.mono HB3.out.size)⟩
end Go.Proofs.Ytjcajeilhcjneaa.Po
/- Postings: the statements that ask Right, Pack and Unpack alone: over the contracts. -/
namespace Go.Proofs.Ytjcajeilhcjneaa.Po
open Go.RowKit
open Fr (bs)
end Go.Proofs.Ytjcajeilhcjneaa.Po
/- PostingsBack over the contracts. -/
set_option maxRecDepth 100000
namespace Go.Proofs.Ytjcajeilhcjneaa.Po
open Go.RowKit
open Fr (bs)
theorem right_pos {L : List Pg} (h : RightG L) : ∀ p ∈ L, p.pos.length <= maxLen := fun p hp => by
 have := rise_len (h.1 p hp).1 (by omega)
 unfold maxLen; omega
theorem unp_of {L : List Pg} (h : RightG L) : unpP (bs (bytesP L)).data.toList = some L := unp_back h
theorem bs_unp {s : ByteArray} {M : List Pg} (h : unpP s.data.toList = some M) : RightG M /\ bs (bytesP M) = s := by
 obtain ⟨h1, h2⟩ := unp_some h
 exact ⟨h1, by rw [h2]; rfl⟩
theorem punp_yes {s : ByteArray} {M : List Pg} (h : unpP s.data.toList = some M) (w : World) (hs : s.size <= 4000000) : Calls Try.prog 15 #[.string s] w fun e w' => (∃ v, e = .returned (.tuple #[v, .int .i64 0]) /\ SlP w' v M) /\ Below w.heap.size w w' := by
 have := punpack_any s w hs
 rw [h] at this
 exact this
theorem punp_no {s : ByteArray} (h : unpP s.data.toList = none) (w : World) (hs : s.size <= 4000000) : Calls Try.prog 15 #[.string s] w fun e w' => e = .returned (.tuple #[.slice none 0 0, .int .i64 7]) /\ Below w.heap.size w w' := by
 have := punpack_any s w hs
 rw [h] at this
 exact this
set_option maxHeartbeats 8000000 in
theorem poback_walk (v : Value) (L : List Pg) (s : ByteArray) (w : World) (hv : SlP w v L) (hl : L.length <= maxLen) (hp : ∀ p ∈ L, p.pos.length <= maxLen) (hs : s.size <= maxLen) : Calls Try.prog 6 #[v, .string s] w fun e w' => e = .returned (.bool true) /\ Below w.heap.size w w' := by
 have CS := Lib.hid (shown12_any w)
 have CM := Lib.hid (fun W (hW : Below w.heap.size w W) => small_any L v W (hv.below hW) hp hl)
 have hsz : s.size <= 9223372036854775807 := by unfold maxLen at hs; exact hs
 clear hs
 by_cases hsm : smallB L = true
 ·obtain ⟨h6, _⟩ := of_decide_eq_true hsm
  rw [hsm] at CM
  by_cases h30 : s.size <= 3000
  ·have h30z : ¬ (3000 : Int) < (s.size : Int) := by omega
   have C1 := Lib.hid (fun W (hW : Below w.heap.size w W) => ppack_any L v W (hv.below hW) (by omega) hp)
   have HV := Lib.hid hv
   by_cases hR : RightG L
   ·rw [if_pos hR] at C1
    have C2 := Lib.hid (fun W (_hW : Below w.heap.size w W) => punp_yes (unp_of hR) W (by rw [Fr.bs_size]; have := bytesP_len hR; omega))
    have C3 := Lib.hid (fun va W (hW : Below w.heap.size w W) h1 => same_any L va v W h1 (HV.out.below hW) hp hl)
    generalize bs (bytesP L) = t at *
    cases hu : unpP s.data.toList with
    | none =>
     have CN := Lib.hid (fun W (_hW : Below w.heap.size w W) => punp_no (s := s) hu W (by omega))
     clear hu hv hp hsm h6 hR
     go_enter Try.func6, Try.ntmps6
     go_wp2_with fail
     refine CS.out.mono ?_
     rintro e w1 ⟨rfl, hb1⟩
     have H1 := Lib.hid hb1
     clear hb1
     go_wp2_with fail
     refine (CM.out _ H1.out).mono ?_
     rintro e w2 ⟨rfl, hb2⟩
     have H2 := Lib.hid (H1.out.trans (hb2.mono H1.out.size))
     clear hb2
     go_wp2_with fail
     refine (C1.out _ H2.out).mono ?_
     rintro e w3 ⟨rfl, hb3⟩
     have H3 := Lib.hid (H2.out.trans (hb3.mono H2.out.size))
     clear hb3
     go_wp2_with fail
     refine (C2.out _ H3.out).mono ?_
     rintro e w4 ⟨⟨vx, rfl, hrx⟩, hb4⟩
     have H4 := Lib.hid (H3.out.trans (hb4.mono H3.out.size))
     have HX := Lib.hid hrx
     clear hb4 hrx
     obtain ⟨xo, xc, hvx, -, -⟩ := HX.out
     subst hvx
     go_wp2_with fail
     refine (C3.out _ _ H4.out HX.out).mono ?_
     rintro e w5 ⟨rfl, hb5⟩
     have H5 := Lib.hid (H4.out.trans (hb5.mono H4.out.size))
     clear hb5
     go_wp2_with fail
     refine (CN.out _ H5.out).mono ?_
     rintro e w6 ⟨rfl, hb6⟩
     have H6 := Lib.hid (H5.out.trans (hb6.mono H5.out.size))
     clear hb6
     go_wp2_with fail
     go_ret
     exact ⟨rfl, H6.out⟩
    | some M =>
     obtain ⟨hRM, hMs⟩ := bs_unp hu
     have CN := Lib.hid (fun W (_hW : Below w.heap.size w W) => punp_yes (s := s) hu W (by omega))
     have CP := Lib.hid (fun vm W (_hW : Below w.heap.size w W) (h1 : SlP W vm M) => ppack_any M vm W h1 (by have := right_len hRM; omega) (right_pos hRM))
     simp only [if_pos hRM, hMs] at CP
     have hq : (s.toList == s.toList) = true := by simp
     clear hRM hMs
     clear hu hv hp hsm h6 hR
     go_enter Try.func6, Try.ntmps6
     go_wp2_with fail
     refine CS.out.mono ?_
     rintro e w1 ⟨rfl, hb1⟩
     have H1 := Lib.hid hb1
     clear hb1
     go_wp2_with fail
     refine (CM.out _ H1.out).mono ?_
     rintro e w2 ⟨rfl, hb2⟩
     have H2 := Lib.hid (H1.out.trans (hb2.mono H1.out.size))
     clear hb2
     go_wp2_with fail
     refine (C1.out _ H2.out).mono ?_
     rintro e w3 ⟨rfl, hb3⟩
     have H3 := Lib.hid (H2.out.trans (hb3.mono H2.out.size))
     clear hb3
     go_wp2_with fail
     refine (C2.out _ H3.out).mono ?_
     rintro e w4 ⟨⟨vx, rfl, hrx⟩, hb4⟩
     have H4 := Lib.hid (H3.out.trans (hb4.mono H3.out.size))
     have HX := Lib.hid hrx
     clear hb4 hrx
     obtain ⟨xo, xc, hvx, -, -⟩ := HX.out
     subst hvx
     go_wp2_with fail
     refine (C3.out _ _ H4.out HX.out).mono ?_
     rintro e w5 ⟨rfl, hb5⟩
     have H5 := Lib.hid (H4.out.trans (hb5.mono H4.out.size))
     clear hb5
     go_wp2_with fail
     refine (CN.out _ H5.out).mono ?_
     rintro e w6 ⟨⟨vy, rfl, hry⟩, hb6⟩
     have H6 := Lib.hid (H5.out.trans (hb6.mono H5.out.size))
     have HY := Lib.hid hry
     clear hb6 hry
     go_wp2_with fail
     refine (CP.out _ _ H6.out HY.out).mono ?_
     rintro e w7 ⟨rfl, hb7⟩
     have H7 := Lib.hid (H6.out.trans (hb7.mono H6.out.size))
     clear hb7
     go_wp2_with fail
     go_ret
     exact ⟨rfl, H7.out⟩
   ·rw [if_neg hR] at C1
    cases hu : unpP s.data.toList with
    | none =>
     have CN := Lib.hid (fun W (_hW : Below w.heap.size w W) => punp_no (s := s) hu W (by omega))
     clear hu hv hp hsm h6 hR
     go_enter Try.func6, Try.ntmps6
     go_wp2_with fail
     refine CS.out.mono ?_
     rintro e w1 ⟨rfl, hb1⟩
     have H1 := Lib.hid hb1
     clear hb1
     go_wp2_with fail
     refine (CM.out _ H1.out).mono ?_
     rintro e w2 ⟨rfl, hb2⟩
     have H2 := Lib.hid (H1.out.trans (hb2.mono H1.out.size))
     clear hb2
     go_wp2_with fail
     refine (C1.out _ H2.out).mono ?_
     rintro e w3 ⟨rfl, hb3⟩
     have H3 := Lib.hid (H2.out.trans (hb3.mono H2.out.size))
     clear hb3
     go_wp2_with fail
     refine (CN.out _ H3.out).mono ?_
     rintro e w4 ⟨rfl, hb4⟩
     have H4 := Lib.hid (H3.out.trans (hb4.mono H3.out.size))
     clear hb4
     go_wp2_with fail
     go_ret
     exact ⟨rfl, H4.out⟩
    | some M =>
     obtain ⟨hRM, hMs⟩ := bs_unp hu
     have CN := Lib.hid (fun W (_hW : Below w.heap.size w W) => punp_yes (s := s) hu W (by omega))
     have CP := Lib.hid (fun vm W (_hW : Below w.heap.size w W) (h1 : SlP W vm M) => ppack_any M vm W h1 (by have := right_len hRM; omega) (right_pos hRM))
     simp only [if_pos hRM, hMs] at CP
     have hq : (s.toList == s.toList) = true := by simp
     clear hRM hMs
     clear hu hv hp hsm h6 hR
     go_enter Try.func6, Try.ntmps6
     go_wp2_with fail
     refine CS.out.mono ?_
     rintro e w1 ⟨rfl, hb1⟩
     have H1 := Lib.hid hb1
     clear hb1
     go_wp2_with fail
     refine (CM.out _ H1.out).mono ?_
     rintro e w2 ⟨rfl, hb2⟩
     have H2 := Lib.hid (H1.out.trans (hb2.mono H1.out.size))
     clear hb2
     go_wp2_with fail
     refine (C1.out _ H2.out).mono ?_
     rintro e w3 ⟨rfl, hb3⟩
     have H3 := Lib.hid (H2.out.trans (hb3.mono H2.out.size))
     clear hb3
     go_wp2_with fail
     refine (CN.out _ H3.out).mono ?_
     rintro e w4 ⟨⟨vy, rfl, hry⟩, hb4⟩
     have H4 := Lib.hid (H3.out.trans (hb4.mono H3.out.size))
     have HY := Lib.hid hry
     clear hb4 hry
     go_wp2_with fail
     refine (CP.out _ _ H4.out HY.out).mono ?_
     rintro e w5 ⟨rfl, hb5⟩
     have H5 := Lib.hid (H4.out.trans (hb5.mono H4.out.size))
     clear hb5
     go_wp2_with fail
     go_ret
     exact ⟨rfl, H5.out⟩
  ·have h30z : (3000 : Int) < (s.size : Int) := by omega
   go_enter Try.func6, Try.ntmps6
   go_wp2_with fail
   refine CS.out.mono ?_
   rintro e w1 ⟨rfl, hb1⟩
   have H1 := Lib.hid hb1
   clear hb1
   go_wp2_with fail
   refine (CM.out _ H1.out).mono ?_
   rintro e w2 ⟨rfl, hb2⟩
   have H2 := Lib.hid (H1.out.trans (hb2.mono H1.out.size))
   clear hb2
   go_wp2_with fail
   go_ret
   exact ⟨rfl, H2.out⟩
 ·rw [Bool.eq_false_iff.2 hsm] at CM
  go_enter Try.func6, Try.ntmps6
  go_wp2_with fail
  refine CS.out.mono ?_
  rintro e w1 ⟨rfl, hb1⟩
  have H1 := Lib.hid hb1
  clear hb1
  go_wp2_with fail
  refine (CM.out _ H1.out).mono ?_
  rintro e w2 ⟨rfl, hb2⟩
  have H2 := Lib.hid (H1.out.trans (hb2.mono H1.out.size))
  clear hb2
  go_wp2_with fail
  go_ret
  exact ⟨rfl, H2.out⟩
end Go.Proofs.Ytjcajeilhcjneaa.Po
/- PostingsReads over the contracts. -/
namespace Go.Proofs.Ytjcajeilhcjneaa.Po
open Go.RowKit
open Fr (bs FRow bytes_new byteOf byteOf_val str_len)
end Go.Proofs.Ytjcajeilhcjneaa.Po
/- Postings from a document on, in plain lists; a row of one's own of postings that came from elsewhere. -/
namespace Go.Proofs.Ytjcajeilhcjneaa.Po
open Go.RowKit Go.Shelf
open Fr (bs)
def TOwn (B : Nat) (w : World) (v : Value) (M : List Pg) : Prop := ∃ vs : List Value, ∃ h : vs.length = M.length, w.ownsRow B 37 2 v M.length (flatV M vs) /\ ∀ j (hj : j < M.length), SlT w (vs[j]'(by rw [h]; exact hj)) M[j].pos
theorem TOwn.nil (B : Nat) (w : World) : TOwn B w (.slice none 0 0) [] := ⟨[], rfl, World.ownsRow_nil _ _ _ _, fun j hj => absurd hj (Nat.not_lt_zero _)⟩
theorem TOwn.below {B : Nat} {w w' : World} {v : Value} {M : List Pg} (h : TOwn B w v M) (hb : Below w.heap.size w w') : TOwn B w' v M := by
 obtain ⟨vs, hl, h1, h2⟩ := h
 have hk : ∀ (k : Nat) (o : Obj), w.heap[k]? = some o -> w'.heap[k]? = some o := fun k o e => (hb.block k (Array.getElem?_eq_some_iff.1 e).1).trans e
 refine ⟨vs, hl, ⟨h1.1, ?_⟩, fun j hj => (h2 j hj).kept fun k cs s e => hk k _ e⟩
 rcases h1.2 with hn | ⟨g, cap, cur, e, hbg, hg, rest⟩
 ·exact .inl hn
 ·exact .inr ⟨g, cap, cur, e, hbg, hk g _ hg, rest⟩
theorem TOwn.sl {B : Nat} {w : World} {v : Value} {M : List Pg} (h : TOwn B w v M) : SlP w v M := by
 obtain ⟨vs, hl, h1, h2⟩ := h
 have hO := h1
 rcases h1.2 with ⟨hv, hn⟩ | ⟨g, cap, cur, rfl, hbg, hg, hc, _⟩
 ·exact ⟨none, 0, by rw [hv, hn], by omega, fun j hj => absurd hj (by omega)⟩
 ·refine ⟨_, cap, rfl, hc, fun j hj => ⟨g, 0, vs[j]'(by rw [hl]; exact hj), rfl, (Array.getElem?_eq_some_iff.1 hg).1, ?_, ?_, (h2 j hj).sl⟩⟩
  ·rw [Nat.zero_add, World.ownsRow.cellAt hO (j * 2) (by omega)]
   exact (flatV_get M vs j hl hj).1
  ·rw [Nat.zero_add, World.ownsRow.cellAt hO (j * 2 + 1) (by omega)]
   exact (flatV_get M vs j hl hj).2
def IOwn (w0 : World) (B : Nat) (w : World) (v : Value) (M : List Pg) : Prop := ∃ vs : List Value, ∃ h : vs.length = M.length, w.ownsRow B 37 2 v M.length (flatV M vs) /\ ∀ j (hj : j < M.length), SlI w0 (vs[j]'(by rw [h]; exact hj)) M[j].pos
def ApartR (v u : Value) : Prop := ∀ k, v.ownBlock = some k -> u.ownBlock ≠ some k
theorem ApartR.symm {v u : Value} (h : ApartR v u) : ApartR u v := fun k h1 h2 => h k h2 h1
section
variable {w0 w w' w1 : World} {B : Nat} {v v' u ve : Value} {M Mu : List Pg} {p : Pg} {vs : List Value} {tmp : Obj}
theorem IOwn.nil (w0 : World) (B : Nat) (w : World) : IOwn w0 B w (.slice none 0 0) [] := ⟨[], rfl, World.ownsRow_nil _ _ _ _, fun j hj => absurd hj (Nat.not_lt_zero _)⟩
theorem IOwn.below (h : IOwn w0 B w v M) (hb : Below w.heap.size w w') : IOwn w0 B w' v M := by
 obtain ⟨vs, hl, h1, h2⟩ := h
 refine ⟨vs, hl, ⟨h1.1, ?_⟩, h2⟩
 rcases h1.2 with hn | ⟨g, cap, cur, e, hbg, hg, rest⟩
 ·exact .inl hn
 ·exact .inr ⟨g, cap, cur, e, hbg, (hb.block g (Array.getElem?_eq_some_iff.1 hg).1).trans hg, rest⟩
theorem IOwn.sl (h : IOwn w0 B w v M) (hb : Below w0.heap.size w0 w) : SlP w v M := by
 obtain ⟨vs, hl, h1, h2⟩ := h
 have hO := h1
 rcases h1.2 with ⟨hv, hn⟩ | ⟨g, cap, cur, rfl, hbg, hg, hc, _⟩
 ·exact ⟨none, 0, by rw [hv, hn], by omega, fun j hj => absurd hj (by omega)⟩
 ·refine ⟨_, cap, rfl, hc, fun j hj => ⟨g, 0, vs[j]'(by rw [hl]; exact hj), rfl, (Array.getElem?_eq_some_iff.1 hg).1, ?_, ?_, (h2 j hj).below hb⟩⟩
  ·rw [Nat.zero_add, World.ownsRow.cellAt hO (j * 2) (by omega)]
   exact (flatV_get M vs j hl hj).1
  ·rw [Nat.zero_add, World.ownsRow.cellAt hO (j * 2 + 1) (by omega)]
   exact (flatV_get M vs j hl hj).2
theorem IOwn.apart (h : IOwn w0 B w u Mu) (ha : ApartR v u) (hwh : ∀ k, v'.ownBlock = some k -> v.ownBlock = some k \/ w.heap.size + 1 <= k) : ApartR v' u := fun k h1 h2 => by
 rcases hwh k h1 with e | e
 ·exact ha k e h2
 ·obtain ⟨_, _, h1, _⟩ := h
  have := (h1.lt k h2).2
  omega
end
section
variable {P : Program} (w : World)
end
theorem SlP.take {w : World} {ao : Option Addr} {c : Nat} {L : List Pg} (h : SlP w (.slice ao L.length c) L) {m : Nat} (hm : m <= L.length) : SlP w (.slice ao m c) (L.take m) := by
 obtain ⟨ao', c', e, hl, hc⟩ := h
 cases e
 have hml : (L.take m).length = m := by rw [List.length_take]; omega
 refine ⟨ao, c, by rw [hml], by omega, fun j hj => ?_⟩
 obtain ⟨g, off, ve, e, hg, h1, h2, h3⟩ := hc j (by omega)
 exact ⟨g, off, ve, e, hg, by rw [List.getElem_take]; exact h1, h2, by rw [List.getElem_take]; exact h3⟩
end Go.Proofs.Ytjcajeilhcjneaa.Po
/- PostingsSteps over the contracts. -/
namespace Go.Proofs.Ytjcajeilhcjneaa.Po
open Go.RowKit Go.Shelf
open Fr (bs)
end Go.Proofs.Ytjcajeilhcjneaa.Po
/- PostingsFrom over the contracts. -/
namespace Go.Proofs.Ytjcajeilhcjneaa.Po
open Go.RowKit Go.Shelf
open Fr (bs)
end Go.Proofs.Ytjcajeilhcjneaa.Po
/- Postings further on by as much, in plain lists. -/
namespace Go.Proofs.Ytjcajeilhcjneaa.Po
open Fr (varL varL_lo varL_hi)
end Go.Proofs.Ytjcajeilhcjneaa.Po
