/- What Dirty answers and leaves. -/
import Derived.Test.YthambopnmhkeeaaGreatZCRowW
import Derived.Test.YthambopnmhkeeaaGreatZCDrop
import Derived.Test.YthambopnmhkeeaaGreatZCBase
import Derived.Shelf.SlSortCmp.NoneTotal
import Derived.Test.YthambopnmhkeeaaGreatZCGet
import Derived.Test.YthambopnmhkeeaaGreatZFBase
import Derived.Test.YthambopnmhkeeaaGreatZMGet
import Derived.Test.YthambopnmhkeeaaGreatZCalls2
import Derived.Deep.RegionHeld3

set_option maxRecDepth 100000
namespace Go.Proofs.YthambopnmhkeeaaGreat.Ca
open Go.RowKit
theorem sort_none (ao : Option Addr) (c : Nat) (fv : Value) (w : World) : Calls Tryz.prog 157 #[.slice ao 0 c, fv] w fun e w' => e = .returned (.tuple #[]) /\ w' = w := AnyF.slices_SortFunc_none Tryz.sortW ao c fv w
theorem rise_of {M D : List Wr} (hp : M.Perm D) (hs : M.Pairwise fun a b => a.1 <= b.1) (hn : (D.map fun x => x.1).Nodup) : Rise M := by
 have hn' : (M.map fun x => x.1).Nodup := (hp.map _).nodup_iff.2 hn
 have h2 : M.Pairwise fun a b => a.1 ≠ b.1 := List.pairwise_map.1 hn'
 exact (hs.and h2).imp fun {a b} ⟨h1, h2⟩ => by omega
theorem dirty_is {C : CS} (ok : C.Ok) {M M' : List Wr} (h1 : M'.Perm M) (h2 : M.Perm (dls C.L)) (hs : M'.Pairwise fun a b => a.1 <= b.1) : M' = C.dirty :=
 rise_eq ((h1.trans h2).trans C.dirty_perm.symm) (rise_of (h1.trans h2) hs (dls_nodup ok.nodup)) (CS.dirty_rise ok.nodup)
theorem dls_len (L : List Kp) : (dls L).length <= L.length := by unfold dls; rw [List.length_map]; exact List.length_filter_le _ _
theorem seen_len (L : List Kp) (left : Lit -> Bool) : (seen L left).length <= L.length := Nat.le_trans (List.length_filter_le _ _) (dls_len L)
theorem own_less {B B' : Nat} {w : World} {v : Value} {L : List Wr} (h : OwnW B w v L) (hb : B' <= B) : OwnW B' w v L := by
 refine ⟨h.1, ?_⟩
 rcases h.2 with hn | ⟨g, cap, cur, rfl, hbg, rest⟩
 ·exact .inl hn
 ·exact .inr ⟨g, cap, cur, rfl, Nat.le_trans hb hbg, rest⟩
section
variable {S : Nat -> Prop} {w w' : World} {p : Nat} {src : Value} {C : CS}
set_option maxHeartbeats 4000000 in
theorem dirty_own (h : Cch S w p src C) : Calls Tryz.prog 100 #[.pointer (some ⟨p, 0, none⟩)] w fun e w' => ∃ v, e = .returned v /\ Hid (OwnW w.heap.size w' v C.dirty) /\ Hid (Below w.heap.size w w') /\ Hid (∀ k, v.ownBlock = some k -> w.heap.size <= k) := by
 obtain ⟨bm, ov, h⟩ := h
 obtain ⟨i0, hi, hz0, hz1, hz2⟩ := info_parts Tryz.infoW
 have HZ2 := Lib.hid hz2
 clear hz2
 have c2 := h.raw.c2
 have hown : w.ownsMap Tryz.prog 3 stE bm C.L.length (toD C.L) := h.map
 have HOK := Lib.hid h.ok
 have hbm := h.map.lt
 have HLL : Hid (C.L.length <= 1024) := by show _ <= _; have := h.ok.len; have := h.ok.m1; omega
 clear h
 go_enter Tryz.func100, Tryz.ntmps100
 go_wp2_with (first
  | (at_range; refine wpList_range_own _ rfl _ 174 rfl 3 180 klaw Tryz.underlying174 stE bm C.L.length _ rfl hown ?_; intro w0 hrg0 hg0 hs0)
  | go_in)
 go_frame
 have HRG0 := Lib.hid hrg0
 have HB0 : Hid (Below w.heap.size w w0) := ⟨hg0.os, hg0.tape, hg0.output, hg0.size, fun i hi => hg0.block i hi (by simp)⟩
 clear hrg0 hg0 hown c2
 go_loopw [3, 4, 5] (fun lv _ _ wr => ∃ (left : Lit -> Bool) (cnt : Nat) (M : List Wr), Hid (wr.ranges Tryz.prog 3 stE bm w.heap.size C.L.length (toD C.L) left cnt) /\ Hid (Below w.heap.size w wr) /\ Hid (OwnW (w.heap.size + 1) wr lv M) /\ Hid (M.Perm (seen C.L left)))
  (fun _ _ _ wr => wr.rangeLeft bm w.heap.size)
 case atStart => exact ⟨_, _, [], HRG0.out, HB0.out, OwnW.nil _ _, (show List.Perm _ _ by rw [seen_start])⟩
 case round =>
  clear HRG0 HB0
  obtain ⟨left, cnt, M, HRG, HB, HO, HPM⟩ := hrel
  have hml : M.length <= 1024 := by rw [HPM.out.length_eq]; exact Nat.le_trans (seen_len _ _) HLL.out
  obtain ⟨ao, cap, hlv⟩ := own_shape HO.out
  subst hlv
  go_wp2_with (first
   | (at_next; refine wpList_next_st _ rfl _ rfl bm w.heap.size C.L.length _ _ _ rfl HRG.out ?_ ?_)
   | go_in)
  ·intro HL0
   have HPE : Hid (M.Perm (dls C.L)) := by show List.Perm _ _; rw [<- seen_end C.L HL0.out]; exact HPM.out
   have hsz := HB.out.size
   cases M with
   | nil =>
    have G := Lib.hid (sort_none ao cap (.func (.func 158) #[] #[]) wr)
    have HD : Hid (OwnW w.heap.size wr (.slice ao 0 cap) C.dirty) := by
     show OwnW _ _ _ _
     rw [<- dirty_is HOK.out (List.Perm.refl _) HPE.out List.Pairwise.nil]
     exact own_less HO.out (Nat.le_succ _)
    rw [List.length_nil]
    go_wp2_with fail
    refine G.out.mono ?_
    rintro e w2 ⟨rfl, rfl⟩
    have HOB : Hid (∀ k, (Value.slice ao 0 cap).ownBlock = some k -> w.heap.size <= k) := fun k e => by have := (HO.out.lt k e).1; omega
    go_wp2
    go_ret
    exact ⟨_, rfl, HD.out, HB.out, HOB.out⟩
   | cons x0 M0 =>
    obtain ⟨g, cap', hv⟩ := own_succ (n := M0.length) HO.out
    obtain ⟨rfl, rfl⟩ : ao = some ⟨g, 0, none⟩ /\ cap = cap' := by simpa using hv
    have hg1 := (HO.out.lt g rfl).1
    have G := Lib.hid (sort_own HO.out (by omega))
    have HDD : Hid (∀ M' W, M'.Perm (x0 :: M0) -> M'.Pairwise (fun a b => a.1 <= b.1) -> OwnW (w.heap.size + 1) W (.slice (some ⟨g, 0, none⟩) (x0 :: M0).length cap) M' -> OwnW w.heap.size W (.slice (some ⟨g, 0, none⟩) (x0 :: M0).length cap) C.dirty) := by
     intro M' W h1 h2 h3
     rw [<- dirty_is HOK.out h1 HPE.out h2]; exact own_less h3 (Nat.le_succ _)
    clear hv HO HPM HRG HPE
    generalize (x0 :: M0) = M at *
    generalize M.length = n at *
    go_wp2_with fail
    refine G.out.mono ?_
    rintro e w2 ⟨rfl, M', h1, h2, h3, h4⟩
    have HD := Lib.hid (HDD.out M' w2 h1 h2 h3)
    have HB2 : Hid (Below w.heap.size w w2) := HB.out.trans (h4.below hsz (fun k _ e => by subst e; omega))
    clear h1 h2 h3 h4 G HDD
    go_wp2
    go_ret
    exact ⟨_, rfl, HD.out, HB2.out, (show ∀ k, _ -> _ from fun k e => by simp [Value.ownBlock] at e; omega)⟩
  ·rintro x ⟨s, d, m⟩ w1 cnt1 HX hen
   obtain ⟨hxi, hlx, hat, hrg1, hlt, hg1, hs1⟩ := HX.out
   obtain ⟨y, hy, hyk, hyd, hydd⟩ := entry_is HOK.out.nodup HOK.out.wf hat
   have hwl := HRG.out.lt
   have hsz := HB.out.size
   obtain ⟨W, hW, l0, l1, l2, hb⟩ := st_new w1 s d m
   have HRG2 := Lib.hid (hrg1.kept (below_grown hb) (by simp) (by simp))
   have HB1 : Hid (Below w.heap.size w w1) := HB.out.trans ⟨hg1.os, hg1.tape, hg1.output, hg1.size, fun i hi => hg1.block i (by omega) (by simp; omega)⟩
   have HB2 : Hid (Below w.heap.size w W) := HB1.out.trans (hb.mono HB1.out.size)
   have HO1 : Hid (OwnW (w.heap.size + 1) W (.slice ao M.length cap) M) := by
    have h1 : OwnW (w.heap.size + 1) w1 (.slice ao M.length cap) M := by
     refine ⟨HO.out.1, ?_⟩
     rcases HO.out.2 with hn | ⟨g, c', cur, hv, hbg, hg, rest⟩
     ·exact .inl hn
     ·exact .inr ⟨g, c', cur, hv, hbg, by rw [hg1.block g (Array.getElem?_eq_some_iff.1 hg).1 (by simp; omega)]; exact hg, rest⟩
    exact h1.below hb
   have HLT := Lib.hid hlt
   have HSZ : Hid (w.heap.size + 1 <= W.heap.size) := by
    show _ <= _
    have := hb.size
    have := hs1
    omega
   subst hyk hyd
   cases d
   ·have HPM2 : Hid (M.Perm (seen C.L (fun z => left z && !z.sameKey (kl y.key)))) := by show List.Perm _ _; rw [seen_clean HOK.out.nodup hy hydd]; exact HPM.out
    clear hxi hlx hat hrg1 hlt hg1 hs1 hb HX HO HB HPM hy hydd
    go_wp2
    go_roundw
    case rel => exact ⟨_, cnt1, M, HRG2.out, HB2.out, HO1.out, HPM2.out⟩
    case measure => rw [HRG2.out.left_eq, HRG.out.left_eq]; exact HLT.out
   ·have HPM2 : Hid ((M ++ [(y.key, y.data)]).Perm (seen C.L (fun z => left z && !z.sameKey (kl y.key)))) := (HPM.out.append_right _).trans (seen_dirty HOK.out.nodup hy hlx hydd).symm
    clear hxi hlx hat hrg1 hlt hg1 hs1 hb HX HO HB HPM hy hydd
    generalize y.key = yk at *
    generalize y.data = ys at *
    go_wp2_with (at_builtin; go_loud (refine wpList_append_own _ rfl _ _ 49 rfl (w.heap.size + 1) 63 i0 _ 2 24 Tryz.underlying49 hi hz0 hz1 HZ2.out rfl (by decide) _ _ _ rfl (HO1.out.alloc _) _ 1 1 [.int .i64 yk, .string ys] rfl rfl (two_cells rfl) two_one ?c3 ?c4 ?c5 ?_))
    case c3 => unfold maxLen; omega
    case c4 => omega
    case c5 => have := HSZ.out; simp; omega
    intro v1 w3 hown hgrow _
    have hbX : Below W.heap.size W (W.alloc (.cells #[.int .i64 yk, .string ys] 63)) := (Below.refl _ _).alloc (Nat.le_refl _) _
    have HRG3 := HRG2.out.kept (below_grown hbX) (by simp) (by simp)
    have HRG4 := Lib.hid (HRG3.kept hgrow (by intro e; have := (HO1.out.lt _ (by first | exact e | exact e.symm)).1; omega) (by intro e; have := (HO1.out.lt _ (by first | exact e | exact e.symm)).1; omega))
    have HB3 : Hid (Below w.heap.size w w3) := (HB2.out.trans (hbX.mono HB2.out.size)).grown hgrow (by have := HSZ.out; simp; omega) (fun q hq => by have := (HO1.out.lt q hq).1; omega)
    have HO3 := Lib.hid (own_pushW hown)
    clear hown hgrow hbX HRG3
    go_wp2
    go_roundw
    case rel => exact ⟨_, cnt1, _, HRG4.out, HB3.out, HO3.out, HPM2.out⟩
    case measure => rw [HRG4.out.left_eq, HRG.out.left_eq]; exact HLT.out
end
end Go.Proofs.YthambopnmhkeeaaGreat.Ca
/- What ContainsFunc of touch's closure, and touch, answer and leave. -/
set_option maxRecDepth 100000
namespace Go.Proofs.YthambopnmhkeeaaGreat
open Go.RowKit
open Fr (SlW OwnW WritesAt flatI two_cells two_one own_pushW)
section
variable {S SH SC : Nat -> Prop} {w w' : World} {s h c p n N : Nat} {H : Int -> ByteArray} {bits keep : ByteArray} {op : Bool} {C : Ca.CS} {P : TS}
set_option maxHeartbeats 400000 in
theorem touch1_any (a x : Int) (d : ByteArray) (bx : Nat) (w : World) (hb : w.cell? ⟨bx, 0, none⟩ = some (.int .i64 x)) :
  Calls Tryz.prog 155 #[.agg #[.int .i64 a, .string d], .pointer (some ⟨bx, 0, none⟩)] w fun e w' => e = .returned (.bool (a == x)) /\ Below w.heap.size w w' := by
 have hl := World.block_lt_of_cell? w _ hb
 have hb2 : (w.alloc (.cells #[.int .i64 a, .string d] 63)).cell? ⟨bx, 0, none⟩ = some (.int .i64 x) := (((Below.refl w.heap.size w).alloc (Nat.le_refl _) _).cell (p := ⟨bx, 0, none⟩) hl).trans hb
 clear hb
 go_enter Tryz.func155, Tryz.ntmps155
 go_wp2
 go_ret
 exact ⟨rfl, (Below.refl _ _).alloc (Nat.le_refl _) _⟩
set_option maxHeartbeats 1000000 in
theorem indexF_any (T : List Wr) (B : Nat) (v : Value) (x : Int) (bx : Nat) (w : World) (hv : OwnW B w v T) (hT : T.length <= 5000) (hb : w.cell? ⟨bx, 0, none⟩ = some (.int .i64 x)) :
  Calls Tryz.prog 191 #[v, .func (.func 155) #[] #[.pointer (some ⟨bx, 0, none⟩)]] w fun e w' => ∃ r : Int, e = .returned (.int .i64 r) /\ Hid ((T.any fun t => decide (t.1 = x)) = decide (0 <= r) /\ -1 <= r /\ r <= 5000) /\ Hid (Below w.heap.size w w') := by
 obtain ⟨ao, cc, rfl⟩ := own_shape hv
 have hbl := World.block_lt_of_cell? w _ hb
 have HV := Lib.hid hv
 clear hv
 obtain ⟨q, hq⟩ : ∃ q, T.length = q := ⟨_, rfl⟩
 rw [hq] at hT HV ⊢
 have HQ := Lib.hid hq
 clear hq
 go_enter Tryz.func191, Tryz.ntmps191
 go_wp2_with fail
 go_loopw [8] (fun i wr => ∃ k : Nat, k <= q /\ i = .int .i64 k /\ Hid ((T.take k).any (fun t => decide (t.1 = x)) = false) /\ Hid (Below w.heap.size w wr)) (fun i _ => q - (intOf i).toNat)
 case atStart => exact ⟨0, Nat.zero_le _, rfl, rfl, Below.refl _ _⟩
 case round =>
  obtain ⟨k, hk, rfl, HN, HB⟩ := hrel
  by_cases hlt : k < q
  ·have hkT : k < T.length := by rw [HQ.out]; exact hlt
   obtain ⟨g, c', hv, hgc, _, hgl, hws, _⟩ := HV.out.here (by omega)
   obtain ⟨rfl, hqq, rfl⟩ : ao = some ⟨g, 0, none⟩ /\ q = T.length /\ cc = c' := by simpa using hv
   have e0 : wr.cell? ⟨g, 0 + k * 2, none⟩ = some (.int .i64 T[k].1) := (HB.out.cell (p := ⟨g, 0 + k * 2, none⟩) hgl).trans (hws k hkT).1
   have e1 : wr.cell? ⟨g, 0 + k * 2 + 1, none⟩ = some (.string T[k].2) := (HB.out.cell (p := ⟨g, 0 + k * 2 + 1, none⟩) hgl).trans (hws k hkT).2
   rw [Nat.zero_add] at e0 e1
   have hbr : wr.cell? ⟨bx, 0, none⟩ = some (.int .i64 x) := (HB.out.cell (p := ⟨bx, 0, none⟩) hbl).trans hb
   have HC := Lib.hid (fun W (hW : Below wr.heap.size wr W) => touch1_any T[k].1 x T[k].2 bx W ((hW.cell (p := ⟨bx, 0, none⟩) (Nat.lt_of_lt_of_le hbl HB.out.size)).trans hbr))
   have HNx : Hid (T[k].1 ≠ x -> (T.take (k + 1)).any (fun t => decide (t.1 = x)) = false) := fun hne => by
    rw [List.take_succ_eq_append_getElem hkT, List.any_append, HN.out, List.any_cons, List.any_nil]; simp [hne]
   have HYs : Hid (T[k].1 = x -> T.any (fun t => decide (t.1 = x)) = decide (0 <= (k : Int))) := fun he => by
    rw [List.any_eq_true.2 ⟨T[k], List.getElem_mem hkT, by simp [he]⟩]; simp
   clear hv hqq hws hgc hbr HN
   generalize T[k] = y at *
   obtain ⟨ya, yd⟩ := y
   dsimp only at e0 e1 HC HNx HYs
   by_cases he : ya = x
   ·have he' : (ya == x) = true := by simp [he]
    rw [he'] at HC
    have HY := Lib.hid (HYs.out he)
    clear HYs HNx he he'
    go_wp2_with fail
    refine (HC.out _ (Below.refl _ _)).mono ?_
    rintro e w1 ⟨rfl, hb1⟩
    have HB1 := Lib.hid (HB.out.trans (hb1.mono HB.out.size)); clear hb1
    go_wp2
    go_ret
    exact ⟨_, rfl, ⟨HY.out, by omega, by omega⟩, HB1.out⟩
   ·have he' : (ya == x) = false := beq_eq_false_iff_ne.2 he
    rw [he'] at HC
    have HN := Lib.hid (HNx.out he)
    clear HYs HNx he he'
    go_wp2_with fail
    refine (HC.out _ (Below.refl _ _)).mono ?_
    rintro e w1 ⟨rfl, hb1⟩
    have HB1 := Lib.hid (HB.out.trans (hb1.mono HB.out.size)); clear hb1
    go_wp2
    go_roundw
    case rel => exact ⟨k + 1, by omega, by go_num, HN.out, HB1.out⟩
    case measure => simp [intOf]; omega
  ·have HF : Hid (T.any (fun t => decide (t.1 = x)) = decide (0 <= (-1 : Int)) /\ (-1 : Int) <= -1 /\ (-1 : Int) <= 5000) := by
    have h0 := HN.out
    rw [List.take_of_length_le (by rw [HQ.out]; omega)] at h0
    exact ⟨h0, by omega, by omega⟩
   go_wp2
   go_ret
   exact ⟨_, rfl, HF.out, HB.out⟩
set_option maxHeartbeats 400000 in
theorem contF_any (T : List Wr) (B : Nat) (v : Value) (x : Int) (bx : Nat) (w : World) (hv : OwnW B w v T) (hT : T.length <= 5000) (hb : w.cell? ⟨bx, 0, none⟩ = some (.int .i64 x)) :
  Calls Tryz.prog 154 #[v, .func (.func 155) #[] #[.pointer (some ⟨bx, 0, none⟩)]] w fun e w' => e = .returned (.bool (T.any fun t => decide (t.1 = x))) /\ Below w.heap.size w w' := by
 have HI := Lib.hid (indexF_any T B v x bx w hv hT hb)
 clear hv hb
 generalize (T.any fun t => decide (t.1 = x)) = r at *
 go_enter Tryz.func154, Tryz.ntmps154
 go_wp2_with fail
 refine HI.out.mono ?_
 rintro e w1 ⟨i, rfl, HR, HB⟩
 obtain ⟨h1, h2, h3⟩ := HR.out
 have HR1 := Lib.hid h1
 clear h1
 go_wp2
 go_ret
 exact ⟨by rw [HR1.out]; rfl, HB.out⟩
theorem flat_ca (L : List Wr) : Ca.flatI L = Fr.flatI L := by
 induction L with
 | nil => rfl
 | cons x r ih => show _ :: _ :: Ca.flatI r = _ :: _ :: Fr.flatI r; rw [ih]
theorem own_ca {B : Nat} {w : World} {v : Value} {L : List Wr} (h : Ca.OwnW B w v L) : OwnW B w v L := by
 unfold Ca.OwnW at h
 unfold OwnW
 rw [<- flat_ca]; exact h
theorem Sm.dirty (m : Sm S SH SC w s h c p n N H bits keep op C) : Calls Tryz.prog 100 #[.pointer (some ⟨c, 0, none⟩)] w fun e w' => ∃ v, e = .returned v /\ Hid (OwnW w.heap.size w' v C.dirty) /\ Hid (Below w.heap.size w w') :=
 (Ca.dirty_own m.cch).mono fun _ _ ⟨v, he, h1, h2, _⟩ => ⟨v, he, own_ca h1.out, h2⟩
def TchL (S SH : Nat -> Prop) (w w' : World) (s h c p n N : Nat) (H : Int -> ByteArray) (bits keep : ByteArray) (op : Bool) (C : Ca.CS) : Prop :=
 ∃ S' SC', (∀ k, S' k -> S k \/ w.heap.size <= k) /\ Sm S' SH SC' w' s h c p n N H bits keep op C /\ Only S w w'
theorem TchL.put {C : Ca.CS} (t : TchL S SH w w' s h c p n N H bits keep op C) (i : Int) (hi : -9223372036854775808 <= i /\ i <= 9223372036854775807) (d : ByteArray) (W : World) (hW : Below w'.heap.size w' W) :
  Calls Tryz.prog 156 #[.pointer (some ⟨c, 0, none⟩), .int .i64 i, .string d] W fun e W' => e = .returned (.int .i64 (C.put i d).1) /\ Hid (TchL S SH w W' s h c p n N H bits keep op (C.put i d).2) /\ Only (fun k => k < w'.heap.size) W W' := by
 obtain ⟨S', SC', a1, a2, a3⟩ := t
 refine (Ca.put_any i hi d (a2.cch.below hW)).mono fun e W' ⟨he, hl⟩ => ⟨he, ?_⟩
 obtain ⟨S2, SC2, b1, b2, b3⟩ := (a2.below hW).cached hl
 refine ⟨⟨S2, SC2, fun k hk => ?_, b2, ?_⟩, b3.mono (fun k _ hk => a2.slt k hk)⟩
 ·rcases b1 k hk with h | h
  ·exact a1 k h
  ·exact .inr (Nat.le_trans a3.size (Nat.le_trans hW.size h))
 ·refine (a3.trans (Only.of_below S hW (Nat.le_refl _)) (fun _ _ h => h)).trans b3 (fun k hk h => ?_)
  rcases a1 k h with h | h
  ·exact h
  ·omega
set_option maxHeartbeats 4000000 in
theorem touch_any (m : Sm S SH SC w s h c p P.n N P.H bits keep op C) (kc : Ca.Kc C P.t P.d) (ok : P.Ok) (h64 : 64 <= C.most) (L : List Wr) (b off cc : Nat) (hb : b < w.heap.size) (hbS : ¬ S b) (hc : WritesAt w b off L) (hL : L.length <= 2) (hn : (L.map fun x => x.1).Nodup)
  (hr : ∀ x ∈ L, 63 <= x.1 /\ x.1 < P.n /\ x.2.size = 256) :
  Calls Tryz.prog 99 #[.pointer (some ⟨s, 0, none⟩), .slice (some ⟨b, off, none⟩) L.length cc] w fun e w' => e = .returned (.int .i64 (P.touch L).1) /\ ∃ C', Hid (TchL S SH w w' s h c p P.n N P.H bits keep op C') /\ Ca.Kc C' (P.touch L).2.t (P.touch L).2.d /\ C'.most = C.most /\ C'.misses = C.misses := by
 obtain ⟨i0, hi, hz0, hz1, hz2⟩ := info_parts Tryz.infoW
 have HZ2 := Lib.hid hz2; clear hz2
 have hn4 := ok.n1
 have hrng : ∀ x ∈ L, -9223372036854775808 <= x.1 /\ x.1 <= 9223372036854775807 := fun x hx => by have := hr x hx; omega
 have hnd0 : C.nd <= 48 := by rw [kc.count P.n (fun i hi => by have := ok.rng i hi; omega)]; exact ok.few
 have hdl : C.dirty.length <= 48 := by rw [Ca.nd_dirty]; exact hnd0
 have htl := Lib.hid (Ca.Kc.touched kc (fun i hi => by have := ok.rng i hi; omega) L hn)
 have HTL : Hid (∀ k, (Ca.tchL C.dirty (L.take k)).length <= 50) := fun k => by
  rw [Ca.tch_len _ _ (by have := List.take_sublist k L; exact hn.sublist (this.map _))]
  have := List.length_filter_le (fun x : Wr => !C.dirty.any fun t => decide (t.1 = x.1)) (L.take k)
  have h2 : (L.take k).length <= 2 := by rw [List.length_take]; omega
  exact Nat.le_trans (Nat.add_le_add hdl (Nat.le_trans this h2)) (by omega)
 have HS1 : Hid (∀ k (hk : k < L.length), Ca.tchL C.dirty (L.take (k + 1)) = if (Ca.tchL C.dirty (L.take k)).any (fun t => decide (t.1 = L[k].1)) = true then Ca.tchL C.dirty (L.take k) else Ca.tchL C.dirty (L.take k) ++ [L[k]]) := fun k hk => by
  rw [List.take_succ_eq_append_getElem hk]; exact Ca.tch_snoc _ _ _
 have CD := Lib.hid m.dirty
 have c1 := m.c1
 have hsl := m.lt
 have HM := Lib.hid m
 have HC := Lib.hid hc
 have HBS := Lib.hid hbS
 have HKC := Lib.hid kc
 have HR := Lib.hid hr; have HNd := Lib.hid hn; have HRng := Lib.hid hrng
 clear m kc hc hbS hr hn hrng
 obtain ⟨q, hq⟩ : ∃ q, L.length = q := ⟨_, rfl⟩
 rw [hq] at hL ⊢
 have HQ := Lib.hid hq
 clear hq
 have HT : Hid (P.touch L = if 48 < (Ca.tchL C.dirty L).length then (6, P) else (0, P.over L)) := by show _ = _; rw [htl.out]; rfl
 have HD0 : Hid (Ca.tchL C.dirty (L.take 0) = C.dirty) := rfl
 go_enter Tryz.func99, Tryz.ntmps99
 go_wp2_with fail
 refine CD.out.mono ?_
 rintro e w1 ⟨v, rfl, HO1, HB1⟩
 obtain ⟨vo, vc, hv⟩ : ∃ vo vc, v = .slice vo C.dirty.length vc := own_shape HO1.out
 clear hv vo vc
 go_wp2_with fail
 go_loopw [5, 18] (fun tv i wr => ∃ k : Nat, k <= q /\ i = .int .i64 k /\ Hid (OwnW w.heap.size wr tv (Ca.tchL C.dirty (L.take k))) /\ Hid (Below w.heap.size w wr)) (fun _ i _ => q - (intOf i).toNat)
 case atStart => exact ⟨0, Nat.zero_le _, rfl, by show OwnW _ _ _ _; rw [HD0.out]; exact HO1.out, HB1.out⟩
 case round =>
  clear HO1 HB1 CD
  obtain ⟨k, hk, rfl, HO, HB⟩ := hrel
  have hbr := HB.out.size
  by_cases hlt : k < q
  ·have hkL : k < L.length := by rw [HQ.out]; exact hlt
   have e0 : wr.cell? ⟨b, off + k * 2, none⟩ = some (.int .i64 L[k].1) := (HB.out.cell (p := ⟨b, off + k * 2, none⟩) hb).trans (HC.out k hkL).1
   have e1 : wr.cell? ⟨b, off + k * 2 + 1, none⟩ = some (.string L[k].2) := (HB.out.cell (p := ⟨b, off + k * 2 + 1, none⟩) hb).trans (HC.out k hkL).2
   have HSk := Lib.hid (HS1.out k hkL)
   have hTl := HTL.out k
   generalize L[k] = x at *
   obtain ⟨xb, xd⟩ := x
   dsimp only at e0 e1 HSk
   obtain ⟨T, hT⟩ : ∃ T, Ca.tchL C.dirty (L.take k) = T := ⟨_, rfl⟩
   rw [hT] at HO HSk hTl
   clear hT
   obtain ⟨X, hX⟩ : ∃ X, wr.alloc (.cells #[.int .i64 xb, .string xd] 63) = X := ⟨_, rfl⟩
   have hbw : Below wr.heap.size wr X := by rw [<- hX]; exact (Below.refl _ _).alloc (Nat.le_refl _) _
   have x0 : X.cell? ⟨wr.heap.size, 0, none⟩ = some (.int .i64 xb) := by rw [<- hX, cell_at (heap_alloc_new ..)]; rfl
   have x1 : X.cell? ⟨wr.heap.size, 1, none⟩ = some (.string xd) := by rw [<- hX, cell_at (heap_alloc_new ..)]; rfl
   have hXz : X.heap.size = wr.heap.size + 1 := by rw [<- hX]; simp
   have HX := Lib.hid hX
   have HBX : Hid (Below w.heap.size w X) := HB.out.trans (hbw.mono hbr)
   have HOX : Hid (OwnW w.heap.size X _ T) := HO.out.below hbw
   obtain ⟨tvo, tc, htv⟩ := own_shape HOX.out
   subst htv
   have HCn := Lib.hid (contF_any T _ _ xb wr.heap.size X HOX.out (by omega) x0)
   clear hX hbw HO HB
   have hmf : ∀ (fn : Fn) (first cap : Array Value) (w : World), (Instr.makeFunc fn first cap).run Tryz.prog w = .ok (.func fn first cap) w := fun _ _ _ _ => rfl
   by_cases ha : (T.any fun t => decide (t.1 = xb)) = true
   ·rw [ha] at HCn
    have HE : Hid (Ca.tchL C.dirty (L.take (k + 1)) = T) := by show _ = _; rw [HSk.out, if_pos ha]
    clear ha HSk
    go_wp2_with fail
    rw [HX.out]
    clear e0 e1
    go_wp2_with fail
    refine HCn.out.mono ?_
    rintro e w2 ⟨rfl, hb2⟩
    have HB2 := Lib.hid (HBX.out.trans (hb2.mono HBX.out.size))
    have HO2 : Hid (OwnW w.heap.size w2 (.slice tvo T.length tc) (Ca.tchL C.dirty (L.take (k + 1)))) := by show OwnW _ _ _ _; rw [HE.out]; exact HOX.out.below hb2
    clear hb2 HCn hmf
    go_wp2
    go_roundw
    case rel => exact ⟨k + 1, by omega, by go_num, HO2.out, HB2.out⟩
    case measure => simp [intOf]; omega
   ·have ha : (T.any fun t => decide (t.1 = xb)) = false := Bool.eq_false_iff.2 ha
    rw [ha] at HCn
    have HE : Hid (Ca.tchL C.dirty (L.take (k + 1)) = T ++ [(xb, xd)]) := by show _ = _; rw [HSk.out, if_neg (by rw [ha]; simp)]
    clear ha HSk
    go_wp2_with fail
    rw [HX.out]
    clear e0 e1
    go_wp2_with fail
    refine HCn.out.mono ?_
    rintro e w2 ⟨rfl, hb2⟩
    have HB2 := Lib.hid (HBX.out.trans (hb2.mono HBX.out.size))
    have HO2 := Lib.hid (HOX.out.below hb2)
    have y0 : w2.cell? ⟨wr.heap.size, 0, none⟩ = some (.int .i64 xb) := (hb2.cell (p := ⟨wr.heap.size, 0, none⟩) (by show wr.heap.size < _; omega)).trans x0
    have y1 : w2.cell? ⟨wr.heap.size, 1, none⟩ = some (.string xd) := (hb2.cell (p := ⟨wr.heap.size, 1, none⟩) (by show wr.heap.size < _; omega)).trans x1
    have hz2 := HB2.out.size
    clear hb2 HCn hmf x0 x1
    go_wp2_with (at_builtin; go_loud (refine wpList_append_own _ rfl _ _ 49 rfl w.heap.size 63 i0 _ 2 24 Tryz.underlying49 hi hz0 hz1 HZ2.out rfl (by decide) _ _ _ rfl (HO2.out.alloc _) _ 1 1 [.int .i64 xb, .string xd] rfl rfl (two_cells rfl) two_one ?c3 ?c4 ?c5 ?_))
    case c3 => unfold maxLen; omega
    case c4 => omega
    case c5 => simp; omega
    intro v1 w3 hown hgrow _
    have HO3 : Hid (OwnW w.heap.size w3 v1 (Ca.tchL C.dirty (L.take (k + 1)))) := by show OwnW _ _ _ _; rw [HE.out]; exact own_pushW hown
    have HB3 : Hid (Below w.heap.size w w3) := (HB2.out.alloc hz2 _).grown hgrow (by simp; omega) (fun q hq => (HO2.out.lt q hq).1)
    clear hown hgrow HO2 y0 y1
    go_wp2
    go_roundw
    case rel => exact ⟨k + 1, by omega, by go_num, HO3.out, HB3.out⟩
    case measure => simp [intOf]; omega
  ·have hkq : k = q := by omega
   subst hkq
   have e : L.take k = L := List.take_of_length_le (by rw [HQ.out]; exact Nat.le_refl _)
   rw [e] at HO
   have hlT := HTL.out k
   rw [e] at hlT
   clear e
   obtain ⟨tvo, tc, htv⟩ := own_shape HO.out
   subst htv
   by_cases hm : 48 < (Ca.tchL C.dirty L).length
   ·have HP : Hid (P.touch L = (6, P)) := by show _ = _; rw [HT.out, if_pos hm]
    have HF : Hid (TchL S SH w wr s h c p P.n N P.H bits keep op C) := ⟨S, SC, fun _ => .inl, HM.out.below HB.out, Only.of_below _ HB.out (Nat.le_refl _)⟩
    generalize (Ca.tchL C.dirty L).length = tl at *
    clear HT
    go_wp2
    go_ret
    exact ⟨by rw [HP.out]; rfl, C, HF, by rw [HP.out]; exact HKC.out, rfl, rfl⟩
   ·have HP : Hid (P.touch L = (0, P.over L)) := by show _ = _; rw [HT.out, if_neg hm]
    have hmo : C.nd + (L.filter fun x => !P.d x.1).length < C.most := by
     have h2 := HKC.out.count P.n (fun i hi => by have := ok.rng i hi; omega)
     have h3 : P.cnt = (List.range P.n).countP fun i : Nat => P.d (i : Int) := rfl
     have h5 : C.nd + (L.filter fun x => !P.d x.1).length = (Ca.tchL C.dirty L).length := by rw [htl.out, show C.nd = P.cnt from h2.trans h3.symm]
     rw [h5]; omega
    have HPu := Lib.hid (fun k hk => Ca.Kc.puts HKC.out L HNd.out (fun x hx => ⟨(HR.out x hx).2.2, HRng.out x hx⟩) hmo k hk)
    have HI0 : Hid (TchL S SH w wr s h c p P.n N P.H bits keep op (Ca.putsC C (L.take 0))) := ⟨S, SC, fun _ => .inl, HM.out.below HB.out, Only.of_below _ HB.out (Nat.le_refl _)⟩
    have HSt : Hid (∀ k (hk : k < L.length), Ca.putsC C (L.take (k + 1)) = ((Ca.putsC C (L.take k)).put L[k].1 L[k].2).2) := fun k hk => by
     unfold Ca.putsC; rw [List.take_succ_eq_append_getElem hk, List.foldl_append]; rfl
    have c1w : wr.cell? ⟨s, 1, none⟩ = some (.pointer (some ⟨c, 0, none⟩)) := (HB.out.cell (p := ⟨s, 1, none⟩) hsl).trans c1
    generalize (Ca.tchL C.dirty L).length = tl at *
    have hm' : ¬ (48 < (tl : Int)) := by omega
    go_wp2_with fail
    go_loopw [36] (fun i wq => ∃ k2 : Nat, k2 <= k /\ i = .int .i64 k2 /\ Hid (TchL S SH w wq s h c p P.n N P.H bits keep op (Ca.putsC C (L.take k2)))) (fun i _ => k - (intOf i).toNat)
    case atStart => exact ⟨0, Nat.zero_le _, rfl, HI0.out⟩
    case round =>
     obtain ⟨k2, hk2, rfl, HI⟩ := hrel
     by_cases hlt2 : k2 < k
     ·have hkL : k2 < L.length := by rw [HQ.out]; exact hlt2
      obtain ⟨S', SC', t1, t2, t3⟩ := HI.out
      have c1' := t2.c1
      have hsl' := t2.lt
      have e0 : wr.cell? ⟨b, off + k2 * 2, none⟩ = some (.int .i64 L[k2].1) := (t3.cell (p := ⟨b, off + k2 * 2, none⟩) hb HBS.out).trans (HC.out k2 hkL).1
      have e1 : wr.cell? ⟨b, off + k2 * 2 + 1, none⟩ = some (.string L[k2].2) := (t3.cell (p := ⟨b, off + k2 * 2 + 1, none⟩) hb HBS.out).trans (HC.out k2 hkL).2
      obtain ⟨_, _, _, _, p5⟩ := HPu.out k2 (by omega)
      have hz := p5 hkL
      have HSt2 := HSt.out k2 hkL
      have CP : Hid (∀ W, Below wr.heap.size wr W -> Calls Tryz.prog 156 #[.pointer (some ⟨c, 0, none⟩), .int .i64 L[k2].1, .string L[k2].2] W fun e W' => e = .returned (.int .i64 0) /\ Hid (TchL S SH w W' s h c p P.n N P.H bits keep op (Ca.putsC C (L.take (k2 + 1)))) /\ Only (fun k => k < wr.heap.size) W W') := fun W hW => by
       have := HI.out.put L[k2].1 (HRng.out _ (List.getElem_mem hkL)) L[k2].2 W hW
       rw [hz, <- HSt2] at this; exact this
      clear HSt2 hz p5 t1 t2 t3
      generalize L[k2] = x at *
      obtain ⟨xb, xd⟩ := x
      dsimp only at e0 e1 CP
      obtain ⟨X, hX⟩ : ∃ X, wr.alloc (.cells #[.int .i64 xb, .string xd] 63) = X := ⟨_, rfl⟩
      have hbX : Below wr.heap.size wr X := by rw [<- hX]; exact (Below.refl _ _).alloc (Nat.le_refl _) _
      have x0 : X.cell? ⟨wr.heap.size, 0, none⟩ = some (.int .i64 xb) := by rw [<- hX, cell_at (heap_alloc_new ..)]; rfl
      have x1 : X.cell? ⟨wr.heap.size, 1, none⟩ = some (.string xd) := by rw [<- hX, cell_at (heap_alloc_new ..)]; rfl
      have xs : X.cell? ⟨s, 1, none⟩ = some (.pointer (some ⟨c, 0, none⟩)) := (hbX.cell (p := ⟨s, 1, none⟩) hsl').trans c1'
      have hXz : X.heap.size = wr.heap.size + 1 := by rw [<- hX]; simp
      have HP2 : Hid (Calls Tryz.prog 156 #[.pointer (some ⟨c, 0, none⟩), .int .i64 xb, .string xd] X.drew fun e W' => e = .returned (.int .i64 0) /\ Hid (TchL S SH w W' s h c p P.n N P.H bits keep op (Ca.putsC C (L.take (k2 + 1)))) /\ Hid (W'.cell? ⟨s, 1, none⟩ = some (.pointer (some ⟨c, 0, none⟩)) /\ W'.cell? ⟨wr.heap.size, 0, none⟩ = some (.int .i64 xb) /\ W'.cell? ⟨wr.heap.size, 1, none⟩ = some (.string xd))) :=
       (CP.out X.drew hbX.drew).mono fun e W' ⟨e1, e2, e3⟩ => ⟨e1, e2, by obtain ⟨_, _, _, g, _⟩ := e2.out; exact g.c1, (e3.cell (p := ⟨wr.heap.size, 0, none⟩) (by show wr.heap.size < X.heap.size; omega) (fun h => Nat.lt_irrefl _ h)).trans x0, (e3.cell (p := ⟨wr.heap.size, 1, none⟩) (by show wr.heap.size < X.heap.size; omega) (fun h => Nat.lt_irrefl _ h)).trans x1⟩
      have HX := Lib.hid hX
      clear hX hbX CP c1'
      go_wp2_with fail
      rw [HX.out]
      clear e0 e1
      go_region_held3 (fun W => W.cell? ⟨s, 1, none⟩ = some (.pointer (some ⟨c, 0, none⟩)) /\ W.cell? ⟨wr.heap.size, 0, none⟩ = some (.int .i64 xb) /\ W.cell? ⟨wr.heap.size, 1, none⟩ = some (.string xd))
       (first | exact ⟨xs, x0, x1⟩ | exact Hid.out (by assumption))
       (first | (go_at_call 156; refine HP2.out.mono ?_; rintro e w4 ⟨rfl, HT4, HC4⟩))
      clear HP2 x0 x1 xs HC4
      go_wp2
      go_roundw
      case rel => exact ⟨k2 + 1, by omega, by go_num, HT4.out⟩
      case measure => simp [intOf]; omega
     ·have hkk : k2 = k := by omega
      subst hkk
      have e : L.take k2 = L := List.take_of_length_le (by rw [HQ.out]; exact Nat.le_refl _)
      rw [e] at HI
      have HE := Lib.hid (HPu.out k2 (by rw [HQ.out]; exact Nat.le_refl _))
      rw [e] at HE
      clear e
      go_wp2
      go_ret
      exact ⟨by rw [HP.out]; rfl, _, HI, by rw [HP.out]; exact HE.out.1, HE.out.2.2.1, HE.out.2.2.2.1⟩
end
end Go.Proofs.YthambopnmhkeeaaGreat
/- What turn, Write, Alloc, Release and Commit answer and leave. -/
set_option maxRecDepth 100000
namespace Go.Proofs.YthambopnmhkeeaaGreat
open Go.RowKit
open Fr (SlW OwnW WritesAt)
section
variable {S SH SC S1 T : Nat -> Prop} {w w1 w2 w' : World} {s h c p n N N' mi mi' : Nat} {H : Int -> ByteArray} {bits keep : ByteArray} {op : Bool} {C C' : Ca.CS} {P P' : TS}
theorem TchL.st {C' : Ca.CS} (t : TchL S SH w w' s h c p P.n N P.H (txt P.bits) (txt P.keep) P.op C') (L : List Wr) (kc : Ca.Kc C' (P.touch L).2.t (P.touch L).2.d) (ok : (P.touch L).2.Ok) (h64 : 64 <= C'.most) (hmi : C'.misses <= mi) : StL S w w' s p (P.touch L).2 N mi := by
 obtain ⟨S', SC', a1, a2, a3⟩ := t
 obtain ⟨k1, k2, k3⟩ := TS.kept_touch P L
 have k4 : (P.touch L).2.bits = P.bits := by
  unfold TS.touch; split
  ·rfl
  ·exact (P.over_n L).2.2.1
 have k5 : (P.touch L).2.op = P.op := by
  unfold TS.touch; split
  ·rfl
  ·exact (P.over_n L).2.2.2.2
 exact ⟨S', a1, ⟨SH, SC', h, c, C', by rw [k1, k2, k3, k4, k5]; exact a2, kc, ok, h64, hmi⟩, a3⟩
set_option maxHeartbeats 2000000 in
theorem swrite_any (m : St S w s p P N mi) (i : Int) (hi : -9223372036854775808 <= i /\ i <= 9223372036854775807) (d : ByteArray) (hd : d.size <= maxLen) :
  Calls Tryz.prog 42 #[.pointer (some ⟨s, 0, none⟩), .int .i64 i, .string d] w fun e w' => e = .returned (.int .i64 (P.write i d).1) /\ Hid (StL S w w' s p (P.write i d).2 N mi) := by
 have hm0 := m
 obtain ⟨SH, SC, h, c, C, a, kc, ok, h64, hmi⟩ := m
 have CC := Lib.hid (scheck_any a)
 by_cases ho : P.op = true
 ·have e15 : (if P.op = true then (0 : Int) else 15) = 0 := if_pos ho
  rw [e15] at CC
  have CI := Lib.hid (sisData_any a i 1 hi)
  by_cases hdt : P.data i 1 = true
  ·have hdd : decide ((firstD P.n : Int) <= i) = true /\ decide ((1 : Int) <= (P.n : Int) - i) = true := by simpa [TS.data] using hdt
   rw [hdd.1, hdd.2] at CI
   have d1 := of_decide_eq_true hdd.1
   have d2 := of_decide_eq_true hdd.2
   have c2 := a.c2
   have hbz : (txt P.bits).size <= 1000000 := by rw [txt_size, ok.len]; have := ok.n1; unfold nbM; omega
   have CG := Lib.hid (Bm.get_any (txt P.bits) i w hbz hi)
   rw [txt_data] at CG
   by_cases hb : Bm.gb P.bits i = true
   ·rw [hb] at CG
    by_cases hs : d.size = 256
    ·have hf : 63 <= firstD P.n := by unfold firstD; omega
     have hw : P.write i d = P.touch [(i, d)] := by
      unfold TS.write
      rw [if_neg (by rw [ho]; simp), if_neg (by rw [hdt]; simp), if_neg (by rw [hb]; simp), if_neg (by omega)]
     have hok := ok.write i d
     rw [hw] at hok
     have HT : Hid (∀ W, Below w.heap.size w W -> Calls Tryz.prog 99 #[.pointer (some ⟨s, 0, none⟩), .slice (some ⟨W.heap.size, 0, none⟩) 1 1] (W.alloc (.cells #[.int .i64 i, .string d] 63)) fun e w' => e = .returned (.int .i64 (P.touch [(i, d)]).1) /\ StL S w w' s p (P.touch [(i, d)]).2 N mi) := fun W hW => by
      have hba : Below W.heap.size W (W.alloc (.cells #[.int .i64 i, .string d] 63)) := (Below.refl _ _).alloc (Nat.le_refl _) _
      have hbw : Below w.heap.size w (W.alloc (.cells #[.int .i64 i, .string d] 63)) := hW.trans (hba.mono hW.size)
      refine (touch_any (a.below hbw) kc ok h64 [(i, d)] W.heap.size 0 1 (by simp) (fun hk => by have := a.slt _ hk; have := hW.size; omega) (fun j hj => ?_) (by simp) (by simp) (fun x hx => by rw [List.mem_singleton.1 hx]; exact ⟨by dsimp only; omega, by dsimp only; omega, hs⟩)).mono fun e w' ⟨e1, C', e2, e3, e4, e5⟩ => ⟨e1, StL.from hbw (e2.out.st _ e3 hok (by omega) (by omega))⟩
      have hj0 : j = 0 := by simpa using hj
      subst hj0
      exact ⟨by rw [cell_at (heap_alloc_new ..)]; rfl, by rw [cell_at (heap_alloc_new ..)]; rfl⟩
     rw [hw]
     have hs1 : d.size <= 256 := by omega
     have hs2 : 256 <= d.size := by omega
     clear hm0 a kc ok hdd d1 d2 hdt hb hs hw hok ho e15 hf hbz hd
     generalize P.touch [(i, d)] = R at *
     obtain ⟨er, Q⟩ := R
     dsimp only at HT ⊢
     go_enter Tryz.func42, Tryz.ntmps42
     go_wp2_with fail
     refine CC.out.mono ?_
     rintro e w1 ⟨rfl, rfl⟩
     go_wp2_with fail
     refine CI.out.mono ?_
     rintro e w1 ⟨rfl, rfl⟩
     go_wp2_with fail
     refine CG.out.mono ?_
     rintro e w1 ⟨rfl, hb1⟩
     have HB1 := Lib.hid hb1; clear hb1
     go_wp2_with fail
     refine (HT.out _ HB1.out).mono ?_
     rintro e w2 ⟨rfl, hv⟩
     have HV := Lib.hid hv; clear hv
     go_wp2
     go_ret
     exact ⟨rfl, HV.out⟩
    ·have hw : P.write i d = (3, P) := by
      unfold TS.write
      rw [if_neg (by rw [ho]; simp), if_neg (by rw [hdt]; simp), if_neg (by rw [hb]; simp), if_pos hs]
     have hne : ((d.size : Int) != 256) = true := by simp; omega
     have HV : Hid (∀ W, Below w.heap.size w W -> StL S w W s p P N mi) := fun W hW => StL.of_below hm0 hW
     rw [hw]
     unfold maxLen at hd
     clear hm0 a kc ok hdd d1 d2 hdt hb hw ho e15 hbz
     go_enter Tryz.func42, Tryz.ntmps42
     go_wp2_with fail
     refine CC.out.mono ?_
     rintro e w1 ⟨rfl, rfl⟩
     go_wp2_with fail
     refine CI.out.mono ?_
     rintro e w1 ⟨rfl, rfl⟩
     go_wp2_with fail
     refine CG.out.mono ?_
     rintro e w1 ⟨rfl, hb1⟩
     have HF := Lib.hid (HV.out _ hb1); clear hb1
     go_wp2
     go_ret
     exact ⟨rfl, HF.out⟩
   ·have hb : Bm.gb P.bits i = false := by simpa using hb
    rw [hb] at CG
    have hw : P.write i d = (10, P) := by
     unfold TS.write
     rw [if_neg (by rw [ho]; simp), if_neg (by rw [hdt]; simp), if_pos hb]
    have HV : Hid (∀ W, Below w.heap.size w W -> StL S w W s p P N mi) := fun W hW => StL.of_below hm0 hW
    rw [hw]
    clear hm0 a kc ok hdd d1 d2 hdt hb hw ho e15 hbz hd
    go_enter Tryz.func42, Tryz.ntmps42
    go_wp2_with fail
    refine CC.out.mono ?_
    rintro e w1 ⟨rfl, rfl⟩
    go_wp2_with fail
    refine CI.out.mono ?_
    rintro e w1 ⟨rfl, rfl⟩
    go_wp2_with fail
    refine CG.out.mono ?_
    rintro e w1 ⟨rfl, hb1⟩
    have HF := Lib.hid (HV.out _ hb1); clear hb1
    go_wp2
    go_ret
    exact ⟨rfl, HF.out⟩
  ·have hdf : P.data i 1 = false := by simpa using hdt
   have hdd : (decide ((firstD P.n : Int) <= i) && decide ((1 : Int) <= (P.n : Int) - i)) = false := hdf
   rw [hdd] at CI
   have hw : P.write i d = (2, P) := by
    unfold TS.write
    rw [if_neg (by rw [ho]; simp), if_pos hdf]
   have HV : Hid (StL S w w s p P N mi) := StL.refl hm0
   rw [hw]
   clear hm0 a kc ok hdd hdf hdt hw ho e15 hd
   go_enter Tryz.func42, Tryz.ntmps42
   go_wp2_with fail
   refine CC.out.mono ?_
   rintro e w1 ⟨rfl, rfl⟩
   go_wp2_with fail
   refine CI.out.mono ?_
   rintro e w1 ⟨rfl, rfl⟩
   go_wp2
   go_ret
   exact ⟨rfl, HV.out⟩
 ·have ho : P.op = false := by simpa using ho
  have e15 : (if P.op = true then (0 : Int) else 15) = 15 := if_neg (by rw [ho]; simp)
  rw [e15] at CC
  have hw : P.write i d = (15, P) := by unfold TS.write; rw [if_pos ho]
  have HV : Hid (StL S w w s p P N mi) := StL.refl hm0
  rw [hw]
  clear hm0 a kc ok hw ho e15 hd
  go_enter Tryz.func42, Tryz.ntmps42
  go_wp2_with fail
  refine CC.out.mono ?_
  rintro e w1 ⟨rfl, rfl⟩
  go_wp2
  go_ret
  exact ⟨rfl, HV.out⟩
end
end Go.Proofs.YthambopnmhkeeaaGreat
/- What turn, Alloc, Release and Commit answer and leave. -/
set_option maxRecDepth 100000
namespace Go.Proofs.YthambopnmhkeeaaGreat
open Go.RowKit
open Fr (SlW OwnW WritesAt)
section
variable {S SH SC S1 T : Nat -> Prop} {w w1 w2 w' : World} {s h c p n N N' mi mi' : Nat} {H : Int -> ByteArray} {bits keep : ByteArray} {op : Bool} {C C' : Ca.CS} {P P' : TS}
theorem TchL.cell2 (t : TchL S SH w w' s h c p n N H bits keep op C) : w'.cell? ⟨s, 2, none⟩ = some (.string bits) /\ w'.frozen? ⟨s, 2, none⟩ = false := by
 obtain ⟨_, _, _, m, _⟩ := t; exact ⟨m.c2, m.f 2⟩
set_option maxHeartbeats 1000000 in
theorem touch_none (m : Sm S SH SC w s h c p P.n N P.H bits keep op C) (kc : Ca.Kc C P.t P.d) (ok : P.Ok) (ao : Option Addr) (cc : Nat) :
  Calls Tryz.prog 99 #[.pointer (some ⟨s, 0, none⟩), .slice ao 0 cc] w fun e w' => e = .returned (.int .i64 0) /\ Hid (TchL S SH w w' s h c p P.n N P.H bits keep op C) := by
 have CD := Lib.hid m.dirty
 have c1 := m.c1
 have hdl : C.dirty.length <= 48 := by
  rw [Ca.nd_dirty, kc.count P.n (fun i hi => by have := ok.rng i hi; omega)]; exact ok.few
 have HF : Hid (∀ w', Below w.heap.size w w' -> TchL S SH w w' s h c p P.n N P.H bits keep op C) := fun w' hb => ⟨S, SC, fun _ => .inl, m.below hb, Only.of_below _ hb (Nat.le_refl _)⟩
 clear m kc ok
 go_enter Tryz.func99, Tryz.ntmps99
 go_wp2_with fail
 refine CD.out.mono ?_
 rintro e w1 ⟨v, rfl, HO1, HB1⟩
 obtain ⟨vo, vc, hv⟩ := own_shape HO1.out
 subst hv
 have HV := Lib.hid (HF.out _ HB1.out)
 clear HO1 HB1 CD HF
 generalize C.dirty.length = dl at *
 have h48 : ¬ (48 < (dl : Int)) := by omega
 go_wp2_with fail
 go_loopw [5, 18] (fun tv i wr => tv = .slice vo dl vc /\ i = .int .i64 0 /\ wr = w1) (fun _ _ _ => 0)
 case atStart => exact ⟨rfl, rfl, rfl⟩
 case round =>
  obtain ⟨rfl, rfl, rfl⟩ := hrel
  go_wp2_with fail
  go_loopw [36] (fun i wq => i = .int .i64 0 /\ wq = wr) (fun _ _ => 0)
  case atStart => exact ⟨rfl, rfl⟩
  case round =>
   obtain ⟨rfl, rfl⟩ := hrel
   go_wp2
   go_ret
   exact ⟨rfl, HV.out⟩
theorem touch_bits (P : TS) (L : List Wr) : (P.touch L).2.bits = P.bits /\ (P.touch L).2.op = P.op := by
 unfold TS.touch
 split
 ·exact ⟨rfl, rfl⟩
 ·exact ⟨(P.over_n L).2.2.1, (P.over_n L).2.2.2.2⟩
set_option maxHeartbeats 2000000 in
theorem sturn_any (m : St S w s p P N mi) (hop : P.op = true) (a c : Nat) (on : Bool) (h1 : firstD P.n <= a) (h2 : a + c <= P.n) :
  Calls Tryz.prog 95 #[.pointer (some ⟨s, 0, none⟩), .int .i64 (a : Int), .int .i64 (c : Int), .bool on] w fun e w' => e = .returned (.int .i64 (P.turn a c on).1) /\ Hid (StL S w w' s p (P.turn a c on).2 N mi) := by
 obtain ⟨SH, SC, h, cc, C, am, kc, ok, h64, hmi⟩ := m
 have hlen := ok.len
 have hn4 := ok.n1
 have hnb : nbM P.n = (P.n + 2047) / 2048 := rfl
 have c2 := am.c2
 have hok := ok.turn hop a c on h1 h2
 have hset : Bm.setV (txt P.bits).data.toList (a : Int) (c : Int) on = .tuple #[.string (txt (Bm.stL P.bits a on c)), .bool true] := by
  rw [Bm.setV_yes _ _ _ _ (by rw [txt_data]; omega)]
  rfl
 have CS : Hid (Calls Tryz.prog 63 #[.string (txt P.bits), .int .i64 (a : Int), .int .i64 (c : Int), .bool on] w fun e w' => e = .returned (.tuple #[.string (txt (Bm.stL P.bits a on c)), .bool true]) /\ Below w.heap.size w w') := by
  show Calls _ _ _ _ _
  rw [<- hset]
  exact Bm.set_any (txt P.bits) _ _ on w (by rw [txt_size]; omega) (by omega) (by omega)
 have hlB : (Bm.stL P.bits a on c).length = 256 * nbM P.n := by rw [Bm.stL_length]; exact hlen
 have CT : Hid (∀ W, Calls Tryz.prog 151 #[.string (txt P.bits), .string (txt (Bm.stL P.bits a on c))] W fun e w' => ∃ v, e = .returned v /\ Hid (OwnW W.heap.size w' v (turnedM P.n P.bits (Bm.stL P.bits a on c))) /\ Hid (Below W.heap.size W w')) := fun W =>
  turned_any P.bits (Bm.stL P.bits a on c) (nbM P.n) hlen hlB (by omega) W
 have hL2 : (turnedM P.n P.bits (Bm.stL P.bits a on c)).length <= 2 := Nat.le_trans (TS.turned_few _ _ _) (by omega)
 have hnd := TS.turned_nodup P.n P.bits (Bm.stL P.bits a on c)
 have hr : ∀ x ∈ turnedM P.n P.bits (Bm.stL P.bits a on c), 63 <= x.1 /\ x.1 < P.n /\ x.2.size = 256 := fun x hx => by
  obtain ⟨k, hk, _, rfl⟩ := TS.turned_mem hx
  have := ok.n0
  exact ⟨by dsimp only; omega, by dsimp only; omega, by dsimp only; rw [txt_size]; exact blk_len hlB hk⟩
 have htn : P.turn a c on = if (P.touch (turnedM P.n P.bits (Bm.stL P.bits a on c))).1 ≠ 0 then ((P.touch (turnedM P.n P.bits (Bm.stL P.bits a on c))).1, P) else (0, { (P.touch (turnedM P.n P.bits (Bm.stL P.bits a on c))).2 with bits := Bm.stL P.bits a on c }) := rfl
 obtain ⟨k1, k2, k3⟩ := TS.kept_touch P (turnedM P.n P.bits (Bm.stL P.bits a on c))
 obtain ⟨k4, k5⟩ := touch_bits P (turnedM P.n P.bits (Bm.stL P.bits a on c))
 have HTc : Hid (∀ W v, Below w.heap.size w W -> OwnW w.heap.size W v (turnedM P.n P.bits (Bm.stL P.bits a on c)) -> Calls Tryz.prog 99 #[.pointer (some ⟨s, 0, none⟩), v] W fun e w' => e = .returned (.int .i64 (P.touch (turnedM P.n P.bits (Bm.stL P.bits a on c))).1) /\ ∃ C', TchL S SH W w' s h cc p P.n N P.H (txt P.bits) (txt P.keep) P.op C' /\ Ca.Kc C' (P.touch (turnedM P.n P.bits (Bm.stL P.bits a on c))).2.t (P.touch (turnedM P.n P.bits (Bm.stL P.bits a on c))).2.d /\ C'.most = C.most /\ C'.misses = C.misses) := fun W v hW hO => by
  by_cases h0 : turnedM P.n P.bits (Bm.stL P.bits a on c) = []
  ·have hcnt := ok.few
   have ht : P.touch [] = (0, P) := by
    unfold TS.touch
    rw [if_neg (by simp; omega)]
    rfl
   rw [h0] at hO ⊢
   rw [ht]
   obtain ⟨ao, q, rfl⟩ := own_shape hO
   exact (touch_none (am.below hW) kc ok ao q).mono fun e w' ⟨e1, e2⟩ => ⟨e1, C, e2.out, kc, rfl, rfl⟩
  ·have hp : 0 < (turnedM P.n P.bits (Bm.stL P.bits a on c)).length := List.length_pos_iff.2 h0
   obtain ⟨g, q, rfl, _, hg1, hg2, hg3, _⟩ := hO.here hp
   exact (touch_any (am.below hW) kc ok h64 _ g 0 q hg2 (fun hk => by have := am.slt _ hk; omega) hg3 hL2 hnd hr).mono fun e w' ⟨e1, C', e2, e3, e4, e5⟩ => ⟨e1, C', e2.out, e3, e4, e5⟩
 have HV : Hid (∀ W w' C', Below w.heap.size w W -> TchL S SH W w' s h cc p P.n N P.H (txt P.bits) (txt P.keep) P.op C' -> Ca.Kc C' (P.touch (turnedM P.n P.bits (Bm.stL P.bits a on c))).2.t (P.touch (turnedM P.n P.bits (Bm.stL P.bits a on c))).2.d -> C'.most = C.most -> C'.misses = C.misses ->
   (((P.touch (turnedM P.n P.bits (Bm.stL P.bits a on c))).1 ≠ 0 -> StL S w w' s p (P.turn a c on).2 N mi) /\ ((P.touch (turnedM P.n P.bits (Bm.stL P.bits a on c))).1 = 0 -> StL S w (w'.setCell ⟨s, 2, none⟩ (.string (txt (Bm.stL P.bits a on c)))) s p (P.turn a c on).2 N mi))) := fun W w' C' hW ht hk hm1 hm2 => by
  obtain ⟨S', SC', a1, a2, a3⟩ := ht
  rw [htn]
  constructor
  ·intro he
   rw [if_pos he]
   have hP : (P.touch (turnedM P.n P.bits (Bm.stL P.bits a on c))).2 = P := by
    unfold TS.touch at he ⊢
    split
    ·rfl
    ·rename_i hc; rw [if_neg hc] at he; exact absurd rfl he
   rw [hP] at hk
   exact StL.from hW ⟨S', a1, ⟨SH, SC', h, cc, C', a2, hk, ok, by omega, by omega⟩, a3⟩
  ·intro he
   rw [htn, if_neg (by rw [he]; simp)] at hok
   rw [if_neg (by rw [he]; simp)]
   obtain ⟨b1, b2⟩ := a2.put 2 (.string (txt (Bm.stL P.bits a on c))) (bits' := txt (Bm.stL P.bits a on c)) (keep' := txt P.keep) (op' := P.op) rfl
   refine StL.from hW ⟨S', fun k hk => ?_, ⟨SH, SC', h, cc, C', ?_, hk, hok, by omega, by omega⟩, a3.trans b2 (fun k hk hh => ?_)⟩
   ·exact a1 k hk
   ·dsimp only
    rw [k1, k2, k3, k5]
    exact b1
   ·rcases a1 k hh with hh | hh
    ·exact hh
    ·omega
 have he1 : (P.turn a c on).1 = (P.touch (turnedM P.n P.bits (Bm.stL P.bits a on c))).1 := by
  rw [htn]
  split
  ·rfl
  ·rename_i h; exact (by simpa using h : _ = _).symm
 rw [he1]
 have hsl := am.lt
 clear hset hlB hL2 hnd hr htn k1 k2 k3 k4 k5 hok am kc ok h64 hmi hop hlen hnb he1
 generalize turnedM P.n P.bits (Bm.stL P.bits a on c) = TL at *
 generalize P.touch TL = R at *
 obtain ⟨er, Q⟩ := R
 dsimp only at HTc HV ⊢
 generalize txt (Bm.stL P.bits a on c) = BB at *
 generalize (P.turn a c on).2 = PT at *
 by_cases he : er = 0
 ·subst he
  go_enter Tryz.func95, Tryz.ntmps95
  go_wp2_with fail
  refine CS.out.mono ?_
  rintro e w1 ⟨rfl, hb1⟩
  have HB1 := Lib.hid hb1
  have c2' : w1.cell? ⟨s, 2, none⟩ = some (.string (txt P.bits)) := (hb1.cell (p := ⟨s, 2, none⟩) hsl).trans c2
  clear hb1 CS
  go_wp2_with fail
  refine (CT.out w1).mono ?_
  rintro e w2 ⟨v, rfl, HO2, HB2'⟩
  have HB2 := Lib.hid (HB1.out.trans (HB2'.out.mono HB1.out.size))
  have HO : Hid (OwnW w.heap.size w2 v TL) := Fr.OwnW.mono HO2.out HB1.out.size
  clear HO2 HB2' CT c2'
  go_wp2_with fail
  refine (HTc.out _ _ HB2.out HO.out).mono ?_
  rintro e w3 ⟨rfl, C', g1, g2, g3, g4⟩
  obtain ⟨e2, f2⟩ := g1.cell2
  have HF := Lib.hid ((HV.out _ _ _ HB2.out g1 g2 g3 g4).2 (by trivial))
  clear g1 g2 g3 g4 HO HTc HV
  go_wp2
  go_ret
  exact ⟨rfl, HF.out⟩
 ·have he' : (er != 0) = true := by simp [he]
  go_enter Tryz.func95, Tryz.ntmps95
  go_wp2_with fail
  refine CS.out.mono ?_
  rintro e w1 ⟨rfl, hb1⟩
  have HB1 := Lib.hid hb1
  have c2' : w1.cell? ⟨s, 2, none⟩ = some (.string (txt P.bits)) := (hb1.cell (p := ⟨s, 2, none⟩) hsl).trans c2
  clear hb1 CS
  go_wp2_with fail
  refine (CT.out w1).mono ?_
  rintro e w2 ⟨v, rfl, HO2, HB2'⟩
  have HB2 := Lib.hid (HB1.out.trans (HB2'.out.mono HB1.out.size))
  have HO : Hid (OwnW w.heap.size w2 v TL) := Fr.OwnW.mono HO2.out HB1.out.size
  clear HO2 HB2' CT c2'
  go_wp2_with fail
  refine (HTc.out _ _ HB2.out HO.out).mono ?_
  rintro e w3 ⟨rfl, C', g1, g2, g3, g4⟩
  have HF := Lib.hid ((HV.out _ _ _ HB2.out g1 g2 g3 g4).1 he)
  clear g1 g2 g3 g4 HO HTc HV he
  go_wp2
  go_ret
  exact ⟨rfl, HF.out⟩
end
end Go.Proofs.YthambopnmhkeeaaGreat
/- What Alloc and Release answer and leave. -/
set_option maxRecDepth 100000
namespace Go.Proofs.YthambopnmhkeeaaGreat
open Go.RowKit
open Fr (SlW OwnW WritesAt)
section
variable {S SH SC S1 T : Nat -> Prop} {w w1 w2 w' : World} {s h c p n N N' mi mi' : Nat} {H : Int -> ByteArray} {bits keep : ByteArray} {op : Bool} {C C' : Ca.CS} {P P' : TS}
theorem fi_map (ok : P.Ok) : Bm.fi (txt P.bits).size (P.n : Int) = P.n := by
 have := ok.len
 rw [txt_size, this]
 unfold Bm.fi nbM
 omega
set_option maxHeartbeats 2000000 in
theorem salloc_any (m : St S w s p P N mi) (k : Int) (hk : -9223372036854775808 <= k /\ k <= 9223372036854775807) :
  Calls Tryz.prog 39 #[.pointer (some ⟨s, 0, none⟩), .int .i64 k] w fun e w' => e = .returned (.tuple #[.int .i64 (P.alloc k).1.1, .int .i64 (P.alloc k).1.2]) /\ Hid (StL S w w' s p (P.alloc k).2 N mi) := by
 have hm0 := m
 obtain ⟨SH, SC, h, c, C, a, kc, ok, h64, hmi⟩ := m
 have CC := Lib.hid (scheck_any a)
 have HV : Hid (∀ W, Below w.heap.size w W -> StL S w W s p P N mi) := fun W hW => StL.of_below hm0 hW
 by_cases ho : P.op = true
 ·have e15 : (if P.op = true then (0 : Int) else 15) = 0 := if_pos ho
  rw [e15] at CC
  clear e15
  by_cases h1 : k < 1
  ·have hw : P.alloc k = ((0, 1), P) := by unfold TS.alloc; rw [if_neg (by rw [ho]; simp), if_pos h1]
   rw [hw]
   clear hm0 a kc ok hw ho
   go_enter Tryz.func39, Tryz.ntmps39
   go_wp2_with fail
   refine CC.out.mono ?_
   rintro e w1 ⟨rfl, rfl⟩
   have HF := Lib.hid (HV.out _ (Below.refl _ _))
   go_wp2
   go_ret2
   exact ⟨rfl, HF.out⟩
  ·obtain ⟨j, D, SD, ch, cj, hd, hl, hn, h4, hhl, hjl, _⟩ := a.head
   have c0 := a.c0; have c2 := a.c2
   have hsl := a.lt
   have CB : Hid (∀ W, Below w.heap.size w W -> Calls Tryz.prog 58 #[.pointer (some ⟨p, 0, none⟩)] W fun e w' => e = .returned (.int .i64 (P.n : Int)) /\ W = w') := fun W hW => by
    have := blocks_any (hd.below hW)
    rw [hn] at this; exact this
   have HK : Hid (∀ W, Below w.heap.size w W -> W.cell? ⟨s, 0, none⟩ = some (.pointer (some ⟨h, 0, none⟩)) /\ W.cell? ⟨s, 2, none⟩ = some (.string (txt P.bits)) /\ W.cell? ⟨h, 0, none⟩ = some (.pointer (some ⟨j, 0, none⟩)) /\ W.cell? ⟨j, 0, none⟩ = some (.pointer (some ⟨p, 0, none⟩))) := fun W hW =>
    ⟨(hW.cell (p := ⟨s, 0, none⟩) hsl).trans c0, (hW.cell (p := ⟨s, 2, none⟩) hsl).trans c2, (hW.cell (p := ⟨h, 0, none⟩) hhl).trans ch, (hW.cell (p := ⟨j, 0, none⟩) hjl).trans cj⟩
   have hbz : (txt P.bits).size <= 1000000 := by rw [txt_size, ok.len]; unfold nbM; omega
   have CG : Hid (∀ W, Calls Tryz.prog 94 #[.string (txt P.bits), .int .i64 (P.n : Int), .int .i64 k] W fun e w' => e = .returned (Bm.fitV (Bm.fit P.bits P.n k.toNat)) /\ Below W.heap.size W w') := fun W => by
    have := Bm.fit_any (txt P.bits) (P.n : Int) k W hbz (by omega) hk
    rw [fi_map ok, txt_data] at this; exact this
   cases hf : Bm.fit P.bits P.n k.toNat with
   | none =>
    rw [hf] at CG
    have hw : P.alloc k = ((0, 9), P) := by unfold TS.alloc; rw [if_neg (by rw [ho]; simp), if_neg h1, hf]
    rw [hw]
    unfold Bm.fitV at CG
    simp only [Option.getD_none, Option.isSome_none] at CG
    clear hm0 a kc ok hw ho hf hd hl hn hbz
    go_enter Tryz.func39, Tryz.ntmps39
    go_wp2_with fail
    refine CC.out.mono ?_
    rintro e w1 ⟨rfl, rfl⟩
    go_wp2_with fail
    go_region_held3 (fun W => W.cell? ⟨s, 0, none⟩ = some (.pointer (some ⟨h, 0, none⟩)) /\ W.cell? ⟨s, 2, none⟩ = some (.string (txt P.bits)) /\ W.cell? ⟨h, 0, none⟩ = some (.pointer (some ⟨j, 0, none⟩)) /\ W.cell? ⟨j, 0, none⟩ = some (.pointer (some ⟨p, 0, none⟩)))
     (first | exact ⟨c0, c2, ch, cj⟩ | assumption)
     (first
      | (go_at_call 58; refine (CB.out _ ((Below.refl _ _).drew)).mono ?_; rintro e w1 ⟨rfl, rfl⟩)
      | (go_at_call 94; refine (CG.out _).mono ?_; rintro e w1 ⟨rfl, hb1'⟩; have hb1 : Below w.heap.size w w1 := Fr.below_predrew hb1'; have hh1 := HK.out w1 hb1))
    have HF := Lib.hid (HV.out _ hb1)
    clear hb1
    go_wp2
    go_ret2
    exact ⟨rfl, HF.out⟩
   | some x =>
    rw [hf] at CG
    unfold Bm.fitV at CG
    simp only [Option.getD_some, Option.isSome_some] at CG
    obtain ⟨_, g2, g3, _⟩ := ok.fit_data hf
    have hkn : ((k.toNat : Nat) : Int) = k := by omega
    have HT : Hid (∀ W, Below w.heap.size w W -> Calls Tryz.prog 95 #[.pointer (some ⟨s, 0, none⟩), .int .i64 (x : Int), .int .i64 k, .bool true] W fun e w' => e = .returned (.int .i64 (P.turn x k.toNat true).1) /\ StL S w w' s p (P.turn x k.toNat true).2 N mi) := fun W hW => by
     have := sturn_any (hm0.below hW) ho x k.toNat true g2 g3
     rw [hkn] at this
     exact this.mono fun e w' ⟨e1, e2⟩ => ⟨e1, StL.from hW e2.out⟩
    have hw : P.alloc k = if (P.turn x k.toNat true).1 ≠ 0 then ((0, (P.turn x k.toNat true).1), P) else (((x : Int), 0), (P.turn x k.toNat true).2) := by
     unfold TS.alloc; rw [if_neg (by rw [ho]; simp), if_neg h1, hf]
    have hP : (P.turn x k.toNat true).1 ≠ 0 -> (P.turn x k.toNat true).2 = P := fun he => by
     unfold TS.turn at he ⊢
     dsimp only at he ⊢
     generalize P.touch (turnedM P.n P.bits (Bm.stL P.bits x true k.toNat)) = q at he ⊢
     obtain ⟨eq, Q⟩ := q
     dsimp only at he ⊢
     by_cases hq : eq ≠ 0
     ·rw [if_pos hq]
     ·rw [if_neg hq] at he; exact absurd rfl he
    rw [hw]
    have hx4 : x <= 4096 := by omega
    clear hm0 a kc ok hw ho hf hd hl hn hbz HV g2 g3 hkn
    generalize txt P.bits = TB at *
    generalize P.turn x k.toNat true = R at *
    obtain ⟨er, Q⟩ := R
    dsimp only at HT hP ⊢
    by_cases he : er = 0
    ·subst he
     rw [if_neg (by simp)]
     clear hP
     go_enter Tryz.func39, Tryz.ntmps39
     go_wp2_with fail
     refine CC.out.mono ?_
     rintro e w1 ⟨rfl, rfl⟩
     go_wp2_with fail
     go_region_held3 (fun W => W.cell? ⟨s, 0, none⟩ = some (.pointer (some ⟨h, 0, none⟩)) /\ W.cell? ⟨s, 2, none⟩ = some (.string (TB)) /\ W.cell? ⟨h, 0, none⟩ = some (.pointer (some ⟨j, 0, none⟩)) /\ W.cell? ⟨j, 0, none⟩ = some (.pointer (some ⟨p, 0, none⟩)))
      (first | exact ⟨c0, c2, ch, cj⟩ | assumption)
      (first
       | (go_at_call 58; refine (CB.out _ ((Below.refl _ _).drew)).mono ?_; rintro e w1 ⟨rfl, rfl⟩)
       | (go_at_call 94; refine (CG.out _).mono ?_; rintro e w1 ⟨rfl, hb1'⟩; have hb1 : Below w.heap.size w w1 := Fr.below_predrew hb1'; have hh1 := HK.out w1 hb1))
     have HB1 := Lib.hid hb1
     clear hb1
     go_wp2_with fail
     refine (HT.out _ HB1.out).mono ?_
     rintro e w2 ⟨rfl, hv⟩
     have HF := Lib.hid hv
     clear hv
     go_wp2
     go_ret2
     exact ⟨rfl, HF.out⟩
    ·rw [if_pos he]
     have hq := hP he
     subst hq
     have he' : (er != 0) = true := by simp [he]
     clear hP he
     go_enter Tryz.func39, Tryz.ntmps39
     go_wp2_with fail
     refine CC.out.mono ?_
     rintro e w1 ⟨rfl, rfl⟩
     go_wp2_with fail
     go_region_held3 (fun W => W.cell? ⟨s, 0, none⟩ = some (.pointer (some ⟨h, 0, none⟩)) /\ W.cell? ⟨s, 2, none⟩ = some (.string (TB)) /\ W.cell? ⟨h, 0, none⟩ = some (.pointer (some ⟨j, 0, none⟩)) /\ W.cell? ⟨j, 0, none⟩ = some (.pointer (some ⟨p, 0, none⟩)))
      (first | exact ⟨c0, c2, ch, cj⟩ | assumption)
      (first
       | (go_at_call 58; refine (CB.out _ ((Below.refl _ _).drew)).mono ?_; rintro e w1 ⟨rfl, rfl⟩)
       | (go_at_call 94; refine (CG.out _).mono ?_; rintro e w1 ⟨rfl, hb1'⟩; have hb1 : Below w.heap.size w w1 := Fr.below_predrew hb1'; have hh1 := HK.out w1 hb1))
     have HB1 := Lib.hid hb1
     clear hb1
     go_wp2_with fail
     refine (HT.out _ HB1.out).mono ?_
     rintro e w2 ⟨rfl, hv⟩
     have HF := Lib.hid hv
     clear hv
     go_wp2
     go_ret2
     exact ⟨rfl, HF.out⟩
 ·have ho : P.op = false := by simpa using ho
  have e15 : (if P.op = true then (0 : Int) else 15) = 15 := if_neg (by rw [ho]; simp)
  rw [e15] at CC
  have hw : P.alloc k = ((0, 15), P) := by unfold TS.alloc; rw [if_pos ho]
  rw [hw]
  clear hm0 a kc ok hw ho e15
  go_enter Tryz.func39, Tryz.ntmps39
  go_wp2_with fail
  refine CC.out.mono ?_
  rintro e w1 ⟨rfl, rfl⟩
  have HF := Lib.hid (HV.out _ (Below.refl _ _))
  go_wp2
  go_ret2
  exact ⟨rfl, HF.out⟩
set_option maxHeartbeats 2000000 in
theorem srelease_any (m : St S w s p P N mi) (x k : Int) (hx : -9223372036854775808 <= x /\ x <= 9223372036854775807) (hk : -9223372036854775808 <= k /\ k <= 9223372036854775807) :
  Calls Tryz.prog 40 #[.pointer (some ⟨s, 0, none⟩), .int .i64 x, .int .i64 k] w fun e w' => e = .returned (.int .i64 (P.release x k).1) /\ Hid (StL S w w' s p (P.release x k).2 N mi) := by
 have hm0 := m
 obtain ⟨SH, SC, h, c, C, a, kc, ok, h64, hmi⟩ := m
 have CC := Lib.hid (scheck_any a)
 have HV : Hid (∀ W, Below w.heap.size w W -> StL S w W s p P N mi) := fun W hW => StL.of_below hm0 hW
 by_cases ho : P.op = true
 ·have e15 : (if P.op = true then (0 : Int) else 15) = 0 := if_pos ho
  rw [e15] at CC
  clear e15
  by_cases h1 : k < 1
  ·have hw : P.release x k = (2, P) := by unfold TS.release; rw [if_neg (by rw [ho]; simp), if_pos (.inl h1)]
   rw [hw]
   clear hm0 a kc ok hw ho
   go_enter Tryz.func40, Tryz.ntmps40
   go_wp2_with fail
   refine CC.out.mono ?_
   rintro e w1 ⟨rfl, rfl⟩
   have HF := Lib.hid (HV.out _ (Below.refl _ _))
   go_wp2
   go_ret
   exact ⟨rfl, HF.out⟩
  ·have CI := Lib.hid (sisData_any a x k hx)
   by_cases hdt : P.data x k = true
   ·have hdd : decide ((firstD P.n : Int) <= x) = true /\ decide (k <= (P.n : Int) - x) = true := by simpa [TS.data] using hdt
    rw [hdd.1, hdd.2] at CI
    have d1 := of_decide_eq_true hdd.1
    have d2 := of_decide_eq_true hdd.2
    have c2 := a.c2
    have hsl := a.lt
    have hn4 := ok.n1
    have hbz : (txt P.bits).size <= 1000000 := by rw [txt_size, ok.len]; unfold nbM; omega
    obtain ⟨X, rfl⟩ := Int.eq_ofNat_of_zero_le (show 0 <= x by omega)
    obtain ⟨K, rfl⟩ := Int.eq_ofNat_of_zero_le (show 0 <= k by omega)
    have CG : Hid (∀ W (i : Nat), i <= 4096 -> Calls Tryz.prog 97 #[.string (txt P.bits), .int .i64 ((X : Int) + (i : Int))] W fun e w' => e = .returned (.bool (Bm.gb P.bits ((X : Int) + (i : Int)))) /\ Below W.heap.size W w') := fun W i hi => Bm.get_any (txt P.bits) _ W hbz (by omega)
    have HT : Hid (∀ W, Below w.heap.size w W -> Calls Tryz.prog 95 #[.pointer (some ⟨s, 0, none⟩), .int .i64 (X : Int), .int .i64 (K : Int), .bool false] W fun e w' => e = .returned (.int .i64 (P.turn X K false).1) /\ StL S w w' s p (P.turn X K false).2 N mi) := fun W hW =>
     (sturn_any (hm0.below hW) ho X K false (by omega) (by omega)).mono fun e w' ⟨e1, e2⟩ => ⟨e1, StL.from hW e2.out⟩
    have HNo : Hid (∀ i, i < K -> Bm.gb P.bits ((X : Int) + (i : Int)) = false -> P.release X K = (10, P)) := fun i hi hb => by
     unfold TS.release
     rw [if_neg (by rw [ho]; simp), if_neg (by rintro (h | h); exact h1 h; rw [hdt] at h; cases h), if_pos]
     rw [Int.toNat_natCast, List.all_eq_false]
     exact ⟨i, List.mem_range.2 hi, by rw [hb]; simp⟩
    have HYs : Hid ((∀ i, i < K -> Bm.gb P.bits ((X : Int) + (i : Int)) = true) -> P.release X K = P.turn X K false) := fun hb => by
     unfold TS.release
     rw [if_neg (by rw [ho]; simp), if_neg (by rintro (h | h); exact h1 h; rw [hdt] at h; cases h), if_neg, Int.toNat_natCast, Int.toNat_natCast]
     rw [Int.toNat_natCast]
     intro hh
     rw [List.all_eq_false] at hh
     obtain ⟨i, hi, h2⟩ := hh
     exact h2 (hb i (List.mem_range.1 hi))
    have hK1 : ¬ ((K : Int) < 1) := h1
    have hK2 : K <= 4096 := by omega
    have hX2 : X <= 4096 := by omega
    clear hm0 a kc ok hdd d1 d2 hdt ho hbz h1
    obtain ⟨R, hR⟩ : ∃ R, P.release X K = R := ⟨_, rfl⟩
    rw [hR] at HNo HYs ⊢
    obtain ⟨Q, hQ⟩ : ∃ Q, P.turn X K false = Q := ⟨_, rfl⟩
    rw [hQ] at HT HYs
    generalize txt P.bits = TB at *
    obtain ⟨er, Rt⟩ := R
    obtain ⟨eq, Qt⟩ := Q
    dsimp only at HT ⊢
    clear hR hQ
    go_enter Tryz.func40, Tryz.ntmps40
    go_wp2_with fail
    refine CC.out.mono ?_
    rintro e w1 ⟨rfl, rfl⟩
    go_wp2_with fail
    refine CI.out.mono ?_
    rintro e w1 ⟨rfl, rfl⟩
    go_wp2_with fail
    go_loopw [24] (fun v wr => ∃ i : Nat, i <= K /\ v = .int .i64 i /\ Hid (∀ q, q < i -> Bm.gb P.bits ((X : Int) + (q : Int)) = true) /\ Hid (Below w.heap.size w wr)) (fun v _ => K - (intOf v).toNat)
    case atStart => exact ⟨0, Nat.zero_le _, rfl, fun q hq => absurd hq (Nat.not_lt_zero _), Below.refl _ _⟩
    case round =>
     obtain ⟨i, hi, rfl, HA, HB⟩ := hrel
     have c2' : wr.cell? ⟨s, 2, none⟩ = some (.string TB) := (HB.out.cell (p := ⟨s, 2, none⟩) hsl).trans c2
     by_cases hlt : i < K
     ·have CG2 := Lib.hid (CG.out wr i (by omega))
      have hN := Lib.hid (HNo.out i hlt)
      have wv : IntKind.i64.wrap ((X : Int) + (i : Int)) = (X : Int) + (i : Int) := IntWalk.i64_in _ (by omega)
      by_cases hb : Bm.gb P.bits ((X : Int) + (i : Int)) = true
      ·rw [hb] at CG2
       have HA2 : Hid (∀ q, q < i + 1 -> Bm.gb P.bits ((X : Int) + (q : Int)) = true) := fun q hq => by
        by_cases e : q = i
        ·subst e; exact hb
        ·exact HA.out q (by omega)
       clear hb hN HA
       go_wp2_with fail
       refine CG2.out.mono ?_
       rintro e w2 ⟨rfl, hb2⟩
       have HB2 := Lib.hid (HB.out.trans (hb2.mono HB.out.size)); clear hb2
       clear c2'
       go_wp2
       go_roundw
       case rel => exact ⟨i + 1, by omega, by go_num, HA2.out, HB2.out⟩
       case measure => simp [intOf]; omega
      ·have hb : Bm.gb P.bits ((X : Int) + (i : Int)) = false := Bool.eq_false_iff.2 hb
       rw [hb] at CG2
       have HRR := Lib.hid (hN.out hb)
       clear hb hN HA
       go_wp2_with fail
       refine CG2.out.mono ?_
       rintro e w2 ⟨rfl, hb2⟩
       have HB2 := Lib.hid (HV.out _ (HB.out.trans (hb2.mono HB.out.size))); clear hb2
       clear c2'
       go_wp2
       go_ret
       exact ⟨by have := HRR.out; cases this; rfl, by have := HRR.out; cases this; exact HB2.out⟩
     ·have hik : i = K := by omega
      subst hik
      have HRR := Lib.hid (HYs.out HA.out)
      have HT2 := Lib.hid (HT.out wr HB.out)
      clear HA c2'
      go_wp2_with fail
      refine HT2.out.mono ?_
      rintro e w2 ⟨rfl, hv⟩
      have HVv := Lib.hid hv
      clear hv
      go_wp2
      go_ret
      exact ⟨by have := HRR.out; cases this; rfl, by have := HRR.out; cases this; exact HVv.out⟩
   ·have hdf : P.data x k = false := Bool.eq_false_iff.2 hdt
    have hdd : (decide ((firstD P.n : Int) <= x) && decide (k <= (P.n : Int) - x)) = false := hdf
    rw [hdd] at CI
    have hw : P.release x k = (2, P) := by unfold TS.release; rw [if_neg (by rw [ho]; simp), if_pos (.inr hdf)]
    rw [hw]
    clear hm0 a kc ok hw ho hdf hdd hdt
    go_enter Tryz.func40, Tryz.ntmps40
    go_wp2_with fail
    refine CC.out.mono ?_
    rintro e w1 ⟨rfl, rfl⟩
    go_wp2_with fail
    refine CI.out.mono ?_
    rintro e w1 ⟨rfl, rfl⟩
    have HF := Lib.hid (HV.out _ (Below.refl _ _))
    go_wp2
    go_ret
    exact ⟨rfl, HF.out⟩
 ·have ho : P.op = false := by simpa using ho
  have e15 : (if P.op = true then (0 : Int) else 15) = 15 := if_neg (by rw [ho]; simp)
  rw [e15] at CC
  have hw : P.release x k = (15, P) := by unfold TS.release; rw [if_pos ho]
  rw [hw]
  clear hm0 a kc ok hw ho e15
  go_enter Tryz.func40, Tryz.ntmps40
  go_wp2_with fail
  refine CC.out.mono ?_
  rintro e w1 ⟨rfl, rfl⟩
  have HF := Lib.hid (HV.out _ (Below.refl _ _))
  go_wp2
  go_ret
  exact ⟨rfl, HF.out⟩
end
end Go.Proofs.YthambopnmhkeeaaGreat
/- What Commit answers and leaves. -/
set_option maxRecDepth 100000
namespace Go.Proofs.YthambopnmhkeeaaGreat
open Go.RowKit
open Fr (SlW OwnW WritesAt)
section
variable {S SH SC S1 T : Nat -> Prop} {w w1 w2 w' : World} {s h c p n N N' mi mi' : Nat} {H H' : Int -> ByteArray} {bits keep : ByteArray} {op : Bool} {C C' : Ca.CS} {P P' : TS}
theorem Sm.homed (m : Sm S SH SC w s h c p n N H bits keep op C) {B : Nat} (hB : w.heap.size <= B) {SH' : Nat -> Prop} (w0 : World) (hb : Below w.heap.size w w0) (h1 : ∀ k, SH' k -> SH k \/ w.heap.size <= k) (h2 : Home SH' w' h p n N' H') (h3 : Only SH w0 w') :
  ∃ S', (∀ k, S' k -> S k \/ w.heap.size <= k) /\ Sm S' SH' SC w' s h c p n N' H' bits keep op C /\ Only S w w' := by
 have hz := hb.size
 have hz' := h3.size
 have m0 := m.below hb
 refine ⟨fun k => S k \/ SH' k, fun k hk => ?_, ⟨?_, h2, m0.cch.kept h3 (fun k hk hh => m.dis k hh hk), .inl m.ss, fun k hk => .inr hk, fun k hk => .inl (m.cS k hk), fun hk => ?_, m.sc, fun k hk hc => ?_, fun k hk => ?_⟩, (Only.of_below S hb (Nat.le_refl _)).trans h3 (fun k _ hk => m.hS k hk)⟩
 ·rcases hk with hk | hk
  ·exact .inl hk
  ·rcases h1 k hk with h | h
   ·exact .inl (m.hS k h)
   ·exact .inr h
 ·rw [h3.block s m0.lt m.sh]; exact m0.hs
 ·rcases h1 s hk with h | h
  ·exact m.sh h
  ·have := m.lt; omega
 ·rcases h1 k hk with h | h
  ·exact m.dis k h hc
  ·have := m.cch.lt k hc; omega
 ·rcases hk with hk | hk
  ·have := m.slt k hk; omega
  ·exact h2.lt k hk
theorem commit_none (ok : P.Ok) (hd : ∀ i, P.d i = false) : P.commit.2 = if P.op = false then P else P.undo := by
 unfold TS.commit
 split
 ·rfl
 ·have ht : P.t = P.H := funext fun i => ok.same i (hd i)
  have hb : P.bits = P.keep := by rw [ok.mt, ok.mH, ht]
  unfold TS.undo
  rw [ht, hb]
set_option maxHeartbeats 4000000 in
theorem scommit_any (m : St S w s p P N mi) (hN : N + 2 <= 10000) :
  Calls Tryz.prog 44 #[.pointer (some ⟨s, 0, none⟩)] w fun e w' => e = .returned (.int .i64 P.commit.1) /\ ∃ N', N' <= N + 2 /\ Hid (StL S w w' s p P.commit.2 N' mi) := by
 have hm0 := m
 obtain ⟨SH, SC, h, c, C, a, kc, ok, h64, hmi⟩ := m
 have CC := Lib.hid (scheck_any a)
 by_cases ho : P.op = true
 ·have e15 : (if P.op = true then (0 : Int) else 15) = 0 := if_pos ho
  rw [e15] at CC
  clear e15
  have CD := Lib.hid a.dirty
  have c0 := a.c0; have c1 := a.c1
  have hsl := a.lt
  have hc1 : P.commit.1 = 0 := by unfold TS.commit; rw [if_neg (by rw [ho]; simp)]
  rw [hc1]
  clear hc1
  have hdl : C.dirty.length <= 48 := by
   rw [Ca.nd_dirty, kc.count P.n (fun i hi => by have := ok.rng i hi; omega)]; exact ok.few
  obtain ⟨hrise, hmem⟩ := kc.dirty
  by_cases h0 : C.dirty.length = 0
  ·have hnil : C.dirty = [] := List.length_eq_zero_iff.1 h0
   have hdn : ∀ i, P.d i = false := fun i => by
    cases hd : P.d i with
    | false => rfl
    | true => have := (hmem (i, P.t i)).2 ⟨hd, rfl⟩; rw [hnil] at this; cases this
   have hcm := commit_none ok hdn
   rw [if_neg (by rw [ho]; simp)] at hcm
   rw [hcm]
   have HU : Hid (∀ W u, Below w.heap.size w W -> CallsD Tryz.prog 92 #[.pointer (some ⟨s, 0, none⟩)] u W fun e u' w' => u' = u /\ (e = .returned (.tuple #[]) /\ StL S w w' s p P.undo N mi)) := fun W u hW =>
    (sundo_deferred (a.below hW) u).mono fun e u' w' ⟨e1, e2, e3⟩ => ⟨e1, e2, StL.from hW (St.undone (a.below hW) kc ok h64 hmi e3)⟩
   have HC0 : Hid (∀ W v, OwnW w.heap.size W v C.dirty -> ∃ ao q, v = .slice ao 0 q) := fun W v hv => by
    obtain ⟨ao, q, e⟩ := own_shape hv
    exact ⟨ao, q, by rw [e, h0]⟩
   clear hm0 a kc ok h64 hmi hdn hcm hrise hmem ho hnil h0 hdl
   go_enter_defers Tryz.func44, Tryz.ntmps44
   go_wp2_with fail
   refine CC.out.mono ?_
   rintro e w1 ⟨rfl, rfl⟩
   go_wp2_with fail
   refine CD.out.mono ?_
   rintro e w1 ⟨v, rfl, HO1, HB1⟩
   obtain ⟨ao, q, rfl⟩ := HC0.out _ _ HO1.out
   go_wp2
   refine leaves_cons (f := 92) (args := #[.pointer (some ⟨s, 0, none⟩)]) (by simp) (by simp [go_sem]) ?_
   refine (HU.out _ .returning HB1.out).mono ?_
   rintro e u' w2 ⟨rfl, rfl, hv⟩
   exact ⟨_, results_tmp rfl _ _ _, rfl, N, by omega, hv⟩
  ·have hsizes : ∀ x ∈ C.dirty, 62 <= x.1 /\ x.1 < (P.n : Int) /\ x.2.size = 256 := fun x hx => by
    obtain ⟨d1, d2⟩ := (hmem x).1 hx
    have := ok.rng x.1 d1
    exact ⟨by omega, by omega, by rw [d2]; exact ok.st _⟩
   have hK : ∀ b : Nat, 62 <= b -> b < P.n -> (∀ x ∈ C.dirty, x.1 ≠ b) -> P.H b = P.t b := fun b _ _ hb => by
    have hd : P.d (b : Int) = false := by
     cases hd : P.d (b : Int) with
     | false => rfl
     | true => exact absurd rfl (hb ((b : Int), P.t b) ((hmem _).2 ⟨hd, rfl⟩))
    exact (ok.same _ hd).symm
   have HCm : Hid (∀ W v, Below w.heap.size w W -> OwnW w.heap.size W v C.dirty -> Calls Tryz.prog 101 #[.pointer (some ⟨h, 0, none⟩), v] W fun e w' => e = .returned (.int .i64 0) /\ ∃ S' SH', (∀ k, S' k -> S k \/ w.heap.size <= k) /\ Sm S' SH' SC w' s h c p P.n (N + 2) P.t (txt P.bits) (txt P.keep) P.op C /\ Only S w w') := fun W v hW hv => by
    obtain ⟨SD, j, sv, L, J, D, F, G, g⟩ := a.home
    obtain ⟨g0, cc, rfl, _, hB, hgl, _, _⟩ := hv.here (by omega)
    have hz := hW.size
    refine (hcommit_any (g.below hW) (M := C.dirty) hv.sl (fun g' off n' c' he => ?_) hsizes (by omega) hdl hN (H' := P.t) (fun x hx => ((hmem x).1 hx).2) hK).mono fun e w' ⟨e1, SH', b1, b2, b3⟩ => ?_
    ·cases he
     exact ⟨fun hs => by have := a.home.lt _ hs; omega, hgl⟩
    ·have hsub : ∀ k, SH' k -> SH k \/ w.heap.size <= k := fun k hk => by
      rcases b1 k hk with h1 | ⟨off, n', c', h1⟩ | h1
      ·exact .inl h1
      ·cases h1; exact .inr hB
      ·exact .inr (by omega)
     obtain ⟨S', d1, d2, d3⟩ := a.homed (Nat.le_refl _) W hW hsub b2 b3
     exact ⟨e1, S', SH', d1, d2, d3⟩
   obtain ⟨k1, k2, k3, k4⟩ := kc.clean
   have HU : Hid (∀ (S' SH' SC' : Nat -> Prop) W u, (∀ k, S' k -> S k \/ w.heap.size <= k) -> Only S w W -> Sm S' SH' SC' W s h c p P.n (N + 2) P.t (txt P.bits) (txt P.bits) P.op C.clean -> CallsD Tryz.prog 92 #[.pointer (some ⟨s, 0, none⟩)] u W fun e u' w' => u' = u /\ (e = .returned (.tuple #[]) /\ StL S w w' s p P.commit.2 (N + 2) mi)) := fun S' SH' SC' W u hS hO hm => by
    have hcm : P.commit.2 = ({ P with H := P.t, keep := P.bits } : TS).undo := by unfold TS.commit; rw [if_neg (by rw [ho]; simp)]
    have hok2 := ok.commit
    rw [hcm] at hok2 ⊢
    refine (sundo_deferred hm u).mono fun e u' w' ⟨e1, e2, S2, SC2, d1, d2, d3⟩ => ⟨e1, e2, ?_⟩
    obtain ⟨q1, _, q3, q4⟩ := k1.drop P.t (fun _ _ => rfl)
    exact StL.next hS hO ⟨S2, d1, ⟨SH', SC2, h, c, C.clean.drop, d2, q1, hok2, by rw [q3, k3]; exact h64, by rw [q4, k4]; exact hmi⟩, d3⟩
   have HC1 : Hid (∀ W v, OwnW w.heap.size W v C.dirty -> ∃ ao q, v = .slice ao C.dirty.length q) := fun W v hv => own_shape hv
   have hl0 : ¬ ((C.dirty.length : Int) = 0) := by omega
   clear hm0 a kc ok h64 hmi hrise hmem ho h0 hsizes hK k1 k2 k3 k4
   generalize P.commit.2 = PC at *
   go_enter_defers Tryz.func44, Tryz.ntmps44
   go_wp2_with fail
   refine CC.out.mono ?_
   rintro e w1 ⟨rfl, rfl⟩
   go_wp2_with fail
   refine CD.out.mono ?_
   rintro e w1 ⟨v, rfl, HO1, HB1⟩
   obtain ⟨ao, q, rfl⟩ := HC1.out _ _ HO1.out
   have c0' : w1.cell? ⟨s, 0, none⟩ = some (.pointer (some ⟨h, 0, none⟩)) := (HB1.out.cell (p := ⟨s, 0, none⟩) hsl).trans c0
   have HC2 := Lib.hid (HCm.out _ _ HB1.out HO1.out)
   clear HO1 HC1 HCm CD c0 c1
   generalize C.dirty.length = dl at *
   go_wp2_with fail
   refine HC2.out.mono ?_
   rintro e w2 ⟨rfl, S2, SH2, d1, d2, d3⟩
   have e1 := d2.c1
   have CCl := Lib.hid (Ca.clean_any d2.cch)
   have HD1 := Lib.hid d1; have HD2 := Lib.hid d2; have HD3 := Lib.hid d3
   clear d1 d2 d3 HC2 c0'
   go_wp2_with fail
   refine CCl.out.mono ?_
   rintro e w3 ⟨rfl, hcl⟩
   obtain ⟨S3, SC3, g1, g2, g3⟩ := HD2.out.cached hcl
   obtain ⟨b1, b2⟩ := g2.put 3 (.string (txt P.bits)) (bits' := txt P.bits) (keep' := txt P.bits) (op' := P.op) rfl
   have x2 := g2.c2; have x3 := g2.c3; have f3 := g2.f 3
   have HU2 := Lib.hid (fun u => HU.out S3 SH2 SC3 (w3.setCell ⟨s, 3, none⟩ (.string (txt P.bits))) u (fun k hk => by
     rcases g1 k hk with hk | hk
     ·exact HD1.out k hk
     ·exact .inr (Nat.le_trans HD3.out.size hk)) ((HD3.out.trans g3 (fun k hk hh => by
     rcases HD1.out k hh with hh | hh
     ·exact hh
     ·omega)).trans b2 (fun k hk hh => by
     rcases g1 k hh with hh | hh
     ·rcases HD1.out k hh with hh | hh
      ·exact hh
      ·omega
     ·have := HD3.out.size; omega)) b1)
   clear hcl g1 g2 g3 b1 b2 e1 HU HD1 HD2 HD3 CCl
   go_wp2
   refine leaves_cons (f := 92) (args := #[.pointer (some ⟨s, 0, none⟩)]) (by simp) (by simp [go_sem]) ?_
   refine (HU2.out .returning).mono ?_
   rintro e u' w4 ⟨rfl, rfl, hv⟩
   exact ⟨_, results_tmp rfl _ _ _, rfl, N + 2, Nat.le_refl _, hv⟩
 ·have ho : P.op = false := by simpa using ho
  have e15 : (if P.op = true then (0 : Int) else 15) = 15 := if_neg (by rw [ho]; simp)
  rw [e15] at CC
  have hw : P.commit = (15, P) := by unfold TS.commit; rw [if_pos ho]
  rw [hw]
  have HV : Hid (StL S w w s p P N mi) := StL.refl hm0
  clear hm0 a kc ok hw ho e15
  go_enter_defers Tryz.func44, Tryz.ntmps44
  go_wp2_with fail
  refine CC.out.mono ?_
  rintro e w1 ⟨rfl, rfl⟩
  go_wp2
  exact ⟨_, results_tmp rfl _ _ _, rfl, N, by omega, HV.out⟩
end
end Go.Proofs.YthambopnmhkeeaaGreat
/- What does answers: an act on the statements' world of a store, while the power is there. -/
set_option maxRecDepth 100000
namespace Go.Proofs.YthambopnmhkeeaaGreat
open Go.RowKit
structure Ws (w0 w : World) (wb s p : Nat) (S : Nat -> Prop) (P : TS) (N mi : Nat) : Prop where
 own : ∀ k, S k -> w0.heap.size <= k
 st : St S w s p P N mi
 wh : w.heap[wb]? = some (.cells #[.pointer (some ⟨p, 0, none⟩), .pointer (some ⟨s, 0, none⟩)] 40 (0, 0))
 nw : ¬ S wb
 lw : w0.heap.size <= wb
 bel : Below w0.heap.size w0 w
def doesT (A : Act7) (P : TS) : (Int × ByteArray × Int) × TS :=
 if pickI A.op 11 = 0 \/ pickI A.op 11 = 1 then ((0, ⟨#[]⟩, (P.write (at7 A.at_) (data7 A.n A.b)).1), (P.write (at7 A.at_) (data7 A.n A.b)).2) else
 if pickI A.op 11 = 2 \/ pickI A.op 11 = 3 then (((P.alloc A.n).1.1, ⟨#[]⟩, (P.alloc A.n).1.2), (P.alloc A.n).2) else
 if pickI A.op 11 = 4 then ((0, ⟨#[]⟩, (P.release (at7 A.at_) A.n).1), (P.release (at7 A.at_) A.n).2) else
 if pickI A.op 11 = 5 then ((0, ⟨#[]⟩, P.begin_.1), P.begin_.2) else
 if pickI A.op 11 = 6 then ((0, ⟨#[]⟩, P.commit.1), P.commit.2) else
 if pickI A.op 11 = 7 then ((0, ⟨#[]⟩, 0), P.undo) else ((0, (P.read (at7 A.at_)).1, (P.read (at7 A.at_)).2), P)
section
variable {w0 w W w' : World} {wb s p b N N' mi mi' : Nat} {S : Nat -> Prop} {P P' : TS} {A : Act7}
theorem Ws.lt (h : Ws w0 w wb s p S P N mi) : wb < w.heap.size := (Array.getElem?_eq_some_iff.1 h.wh).1
theorem Ws.c0 (h : Ws w0 w wb s p S P N mi) : w.cell? ⟨wb, 0, none⟩ = some (.pointer (some ⟨p, 0, none⟩)) := by rw [cell_at h.wh]; rfl
theorem Ws.c1 (h : Ws w0 w wb s p S P N mi) : w.cell? ⟨wb, 1, none⟩ = some (.pointer (some ⟨s, 0, none⟩)) := by rw [cell_at h.wh]; rfl
theorem Ws.below (h : Ws w0 w wb s p S P N mi) (hb : Below w.heap.size w W) : Ws w0 W wb s p S P N mi :=
 ⟨h.own, h.st.below hb, by rw [hb.block wb h.lt]; exact h.wh, h.nw, h.lw, h.bel.trans (hb.mono h.bel.size)⟩
theorem Ws.leaves (h : Ws w0 w wb s p S P N mi) (hl : StL S w w' s p P' N' mi') : ∃ S', Ws w0 w' wb s p S' P' N' mi' := by
 obtain ⟨S', h1, h2, h3⟩ := hl
 have hsz := h.bel.size
 refine ⟨S', fun k hk => ?_, h2, by rw [h3.block wb h.lt h.nw]; exact h.wh, fun hk => ?_, h.lw, h.bel.trans (h3.below hsz (fun k _ hk => h.own k hk))⟩
 ·rcases h1 k hk with a | a
  ·exact h.own k a
  ·omega
 ·rcases h1 wb hk with a | a
  ·exact h.nw a
  ·have := h.lt; omega
theorem Ws.more (h : Ws w0 w wb s p S P N mi) (hm : mi <= mi') : Ws w0 w wb s p S P N mi' := ⟨h.own, h.st.more hm, h.wh, h.nw, h.lw, h.bel⟩
abbrev HeldW (wb s p b : Nat) (A : Act7) (W : World) : Prop := W.cell? ⟨wb, 0, none⟩ = some (.pointer (some ⟨p, 0, none⟩)) /\ W.cell? ⟨wb, 1, none⟩ = some (.pointer (some ⟨s, 0, none⟩)) /\ W.cell? ⟨b, 0, none⟩ = some (.int .i64 A.op) /\ W.cell? ⟨b, 1, none⟩ = some (.int .i64 A.at_) /\ W.cell? ⟨b, 2, none⟩ = some (.int .i64 A.n) /\ W.cell? ⟨b, 3, none⟩ = some (.slice A.kao A.keep.length A.kcap) /\ W.cell? ⟨b, 4, none⟩ = some (.int .u8 A.b)
theorem heldW (h : Ws w0 w wb s p S P N mi) (hx : w.heap[b]? = some (.cells A.cells.toArray 35 (0, 0))) : HeldW wb s p b A w :=
 ⟨h.c0, h.c1, by rw [cell_at hx]; rfl, by rw [cell_at hx]; rfl, by rw [cell_at hx]; rfl, by rw [cell_at hx]; rfl, by rw [cell_at hx]; rfl⟩
theorem Ws.call {X : World} {f : FuncId} {args : Array Value} {r : Value} (h : Ws w0 X wb s p S P N mi) (hx : X.heap[b]? = some (.cells A.cells.toArray 35 (0, 0))) (hb : ¬ S b)
  (hc : ∀ W, St S W s p P N mi -> Calls Tryz.prog f args W fun e w' => e = .returned r /\ ∃ N', N' <= N + 2 /\ Hid (StL S W w' s p P' N' (mi + 1))) :
  Hid (∀ W, Below X.heap.size X W -> Calls Tryz.prog f args W fun e w' => e = .returned r /\ Hid (∃ N' S', N' <= N + 2 /\ Ws w0 w' wb s p S' P' N' (mi + 1)) /\ HeldW wb s p b A w') := fun W hW => by
 have h2 := h.below hW
 refine (hc W h2.st).mono ?_
 rintro e w' ⟨he, N', hN, hl⟩
 obtain ⟨S', h5⟩ := h2.leaves hl.out
 have hbl : b < X.heap.size := (Array.getElem?_eq_some_iff.1 hx).1
 obtain ⟨S2, i1, i2, i3⟩ := hl.out
 refine ⟨he, ⟨N', S', hN, h5⟩, heldW h5 ?_⟩
 rw [i3.block b (Nat.lt_of_lt_of_le hbl hW.size) hb, hW.block b hbl]
 exact hx
set_option maxHeartbeats 4000000 in
theorem does7_any (h : Ws w0 w wb s p S P N mi) (A : Act7) (hA : A.Ok w0) (ho : pickI A.op 11 < 9) (hN : N + 2 <= 10000) (hm : mi < 1000000) :
  Calls Tryz.prog 14 #[.pointer (some ⟨wb, 0, none⟩), .agg #[.int .i64 A.op, .int .i64 A.at_, .int .i64 A.n, .slice A.kao A.keep.length A.kcap, .int .u8 A.b], .int .i64 64] w fun e w' => e = .returned (.tuple #[.int .i64 (doesT A P).1.1, .string (doesT A P).1.2.1, .int .i64 (doesT A P).1.2.2]) /\ Hid (∃ N' S', N' <= N + 2 /\ Ws w0 w' wb s p S' (doesT A P).2 N' (mi + 1)) := by
 obtain ⟨X, hX⟩ : ∃ X, w.alloc (.cells #[.int .i64 A.op, .int .i64 A.at_, .int .i64 A.n, .slice A.kao A.keep.length A.kcap, .int .u8 A.b] 35) = X := ⟨_, rfl⟩
 have hbX : Below w.heap.size w X := by rw [<- hX]; exact (Below.refl _ _).alloc (Nat.le_refl _) _
 have hxc : X.heap[w.heap.size]? = some (.cells #[.int .i64 A.op, .int .i64 A.at_, .int .i64 A.n, .slice A.kao A.keep.length A.kcap, .int .u8 A.b] 35 (0, 0)) := by rw [<- hX, heap_alloc_new]
 have hbs : ¬ S w.heap.size := fun hk => by have := h.st.slt _ hk; omega
 have HWX := Lib.hid (h.below hbX)
 have HX := Lib.hid hX
 clear hX h hbX
 obtain ⟨b, hb⟩ : ∃ b, w.heap.size = b := ⟨_, rfl⟩
 rw [hb] at hxc hbs
 have HE := Lib.hid hb
 have HXC := Lib.hid hxc
 have HBS := Lib.hid hbs
 clear hb hxc hbs
 have hop := pickI_lt A.op 11 (by omega)
 have HP : Hid (∀ W, Calls Tryz.prog 12 #[.int .i64 A.op, .int .i64 11] W fun e w' => e = .returned (.int .i64 (pickI A.op 11)) /\ W = w') := fun W => pick7_any A.op 11 W hA.op0 (by omega)
 have HAt : Hid (∀ W, Calls Tryz.prog 45 #[.agg #[.int .i64 A.op, .int .i64 A.at_, .int .i64 A.n, .slice A.kao A.keep.length A.kcap, .int .u8 A.b]] W fun e w' => e = .returned (.int .i64 (at7 A.at_)) /\ Below W.heap.size W w') := fun W => at7_any A W hA.at0
 have HDa : Hid (∀ W, Calls Tryz.prog 46 #[.agg #[.int .i64 A.op, .int .i64 A.at_, .int .i64 A.n, .slice A.kao A.keep.length A.kcap, .int .u8 A.b]] W fun e w' => e = .returned (.string (data7 A.n A.b)) /\ Below W.heap.size W w') := fun W => data7_any A W
 have hat := at7_int hA.at0
 have hdz : (data7 A.n A.b).size <= maxLen := by
  unfold data7
  split
  ·exact by decide
  ·rw [fl7_size]; decide
 have hn0 := hA.n0
 clear hA
 obtain ⟨o, ho'⟩ : ∃ o, pickI A.op 11 = o := ⟨_, rfl⟩
 rw [ho'] at HP hop ho
 unfold doesT
 rw [ho']
 clear ho'
 by_cases o5 : o = 5
 ·subst o5
  rw [if_neg (by omega), if_neg (by omega), if_neg (by omega), if_pos rfl]
  have C := HWX.out.call HXC.out HBS.out (P' := P.begin_.2) fun W m => (sbegin_any m).mono fun e w' ⟨h1, h2⟩ => ⟨h1, N, by omega, h2.out.more (by omega)⟩
  have HK : Hid (∀ W, Below X.heap.size X W -> HeldW wb s p b A W) := fun W hW => heldW (HWX.out.below hW) (by rw [hW.block b (Array.getElem?_eq_some_iff.1 HXC.out).1]; exact HXC.out)
  obtain ⟨c0, c1, k0, k1, k2, k3, k4⟩ := heldW HWX.out HXC.out
  go_enter Tryz.func14, Tryz.ntmps14
  go_wp2_with fail
  rw [HX.out, HE.out]
  refine (HP.out _).mono ?_
  rintro e w1 ⟨rfl, rfl⟩
  go_wp2_with fail
  refine (C.out _ (Below.refl _ _)).mono ?_
  rintro e w2 ⟨rfl, HC2, hh⟩
  clear hh
  go_wp2
  go_ret3
  exact ⟨rfl, HC2⟩
 ·by_cases o6 : o = 6
  ·subst o6
   rw [if_neg (by omega), if_neg (by omega), if_neg (by omega), if_neg (by omega), if_pos rfl]
   have C := HWX.out.call HXC.out HBS.out (P' := P.commit.2) fun W m => (scommit_any m (by omega)).mono fun e w' ⟨h1, N', h2, h3⟩ => ⟨h1, N', h2, h3.out.more (by omega)⟩
   have HK : Hid (∀ W, Below X.heap.size X W -> HeldW wb s p b A W) := fun W hW => heldW (HWX.out.below hW) (by rw [hW.block b (Array.getElem?_eq_some_iff.1 HXC.out).1]; exact HXC.out)
   obtain ⟨c0, c1, k0, k1, k2, k3, k4⟩ := heldW HWX.out HXC.out
   go_enter Tryz.func14, Tryz.ntmps14
   go_wp2_with fail
   rw [HX.out, HE.out]
   refine (HP.out _).mono ?_
   rintro e w1 ⟨rfl, rfl⟩
   go_wp2_with fail
   refine (C.out _ (Below.refl _ _)).mono ?_
   rintro e w2 ⟨rfl, HC2, hh⟩
   clear hh
   go_wp2
   go_ret3
   exact ⟨rfl, HC2⟩
  ·by_cases o7 : o = 7
   ·subst o7
    rw [if_neg (by omega), if_neg (by omega), if_neg (by omega), if_neg (by omega), if_neg (by omega), if_pos rfl]
    have C := HWX.out.call HXC.out HBS.out (P' := P.undo) fun W m => (sabort_any m).mono fun e w' ⟨h1, h2⟩ => ⟨h1, N, by omega, h2.out.more (by omega)⟩
    have HK : Hid (∀ W, Below X.heap.size X W -> HeldW wb s p b A W) := fun W hW => heldW (HWX.out.below hW) (by rw [hW.block b (Array.getElem?_eq_some_iff.1 HXC.out).1]; exact HXC.out)
    obtain ⟨c0, c1, k0, k1, k2, k3, k4⟩ := heldW HWX.out HXC.out
    go_enter Tryz.func14, Tryz.ntmps14
    go_wp2_with fail
    rw [HX.out, HE.out]
    refine (HP.out _).mono ?_
    rintro e w1 ⟨rfl, rfl⟩
    go_wp2_with fail
    refine (C.out _ (Below.refl _ _)).mono ?_
    rintro e w2 ⟨rfl, HC2, hh⟩
    clear hh
    go_wp2
    go_ret3
    exact ⟨rfl, HC2⟩
   ·by_cases o4 : o = 4
    ·subst o4
     rw [if_neg (by omega), if_neg (by omega), if_pos rfl]
     have C := HWX.out.call HXC.out HBS.out (P' := (P.release (at7 A.at_) A.n).2) fun W m => (srelease_any m _ _ hat hn0).mono fun e w' ⟨h1, h2⟩ => ⟨h1, N, by omega, h2.out.more (by omega)⟩
     have HK : Hid (∀ W, Below X.heap.size X W -> HeldW wb s p b A W) := fun W hW => heldW (HWX.out.below hW) (by rw [hW.block b (Array.getElem?_eq_some_iff.1 HXC.out).1]; exact HXC.out)
     obtain ⟨c0, c1, k0, k1, k2, k3, k4⟩ := heldW HWX.out HXC.out
     go_enter Tryz.func14, Tryz.ntmps14
     go_wp2_with fail
     rw [HX.out, HE.out]
     refine (HP.out _).mono ?_
     rintro e w1 ⟨rfl, rfl⟩
     go_wp2_with fail
     go_region_held3 (HeldW wb s p b A)
      (first | exact ⟨c0, c1, k0, k1, k2, k3, k4⟩ | assumption)
      (first
       | (go_at_call 45; refine (HAt.out _).mono ?_; rintro e w2 ⟨rfl, hb2'⟩; have hb2 : Below X.heap.size X w2 := (by first | exact Fr.below_predrew hb2' | exact hb2'); have hh2 := HK.out _ hb2)
       | (go_at_call 40; refine (C.out _ hb2).mono ?_; rintro e w4 ⟨rfl, HC2, hh4⟩))
     go_wp2
     go_ret3
     exact ⟨rfl, HC2⟩
    ·by_cases o8 : o = 8
     ·subst o8
      rw [if_neg (by omega), if_neg (by omega), if_neg (by omega), if_neg (by omega), if_neg (by omega), if_neg (by omega)]
      have C := HWX.out.call HXC.out HBS.out (P' := P) fun W m => (sread_any m _ hat hm).mono fun e w' ⟨h1, h2⟩ => ⟨h1, N, by omega, h2.out⟩
      have HK : Hid (∀ W, Below X.heap.size X W -> HeldW wb s p b A W) := fun W hW => heldW (HWX.out.below hW) (by rw [hW.block b (Array.getElem?_eq_some_iff.1 HXC.out).1]; exact HXC.out)
      obtain ⟨c0, c1, k0, k1, k2, k3, k4⟩ := heldW HWX.out HXC.out
      go_enter Tryz.func14, Tryz.ntmps14
      go_wp2_with fail
      rw [HX.out, HE.out]
      refine (HP.out _).mono ?_
      rintro e w1 ⟨rfl, rfl⟩
      go_wp2_with fail
      go_region_held3 (HeldW wb s p b A)
       (first | exact ⟨c0, c1, k0, k1, k2, k3, k4⟩ | assumption)
       (first
        | (go_at_call 45; refine (HAt.out _).mono ?_; rintro e w2 ⟨rfl, hb2'⟩; have hb2 : Below X.heap.size X w2 := (by first | exact Fr.below_predrew hb2' | exact hb2'); have hh2 := HK.out _ hb2)
        | (go_at_call 41; refine (C.out _ hb2).mono ?_; rintro e w4 ⟨rfl, HC2, hh4⟩))
      go_wp2
      go_ret3
      exact ⟨rfl, HC2⟩
     ·by_cases o2 : o = 2 \/ o = 3
      ·rcases o2 with rfl | rfl
       all_goals
        rw [if_neg (by omega), if_pos (by omega)]
        have C := HWX.out.call HXC.out HBS.out (P' := (P.alloc A.n).2) fun W m => (salloc_any m _ hn0).mono fun e w' ⟨h1, h2⟩ => ⟨h1, N, by omega, h2.out.more (by omega)⟩
        have HK : Hid (∀ W, Below X.heap.size X W -> HeldW wb s p b A W) := fun W hW => heldW (HWX.out.below hW) (by rw [hW.block b (Array.getElem?_eq_some_iff.1 HXC.out).1]; exact HXC.out)
        obtain ⟨c0, c1, k0, k1, k2, k3, k4⟩ := heldW HWX.out HXC.out
        go_enter Tryz.func14, Tryz.ntmps14
        go_wp2_with fail
        rw [HX.out, HE.out]
        refine (HP.out _).mono ?_
        rintro e w1 ⟨rfl, rfl⟩
        go_wp2_with fail
        go_region_held3 (HeldW wb s p b A)
         (first | exact ⟨c0, c1, k0, k1, k2, k3, k4⟩ | assumption)
         (first
          | (go_at_call 39; refine (C.out _ ((Below.refl _ _).drew)).mono ?_; rintro e w4 ⟨rfl, HC2, hh4⟩))
        go_wp2
        go_ret3
        exact ⟨rfl, HC2⟩
      ·have o0 : o = 0 \/ o = 1 := by omega
       rcases o0 with rfl | rfl
       all_goals
        rw [if_pos (by omega)]
        have C := HWX.out.call HXC.out HBS.out (P' := (P.write (at7 A.at_) (data7 A.n A.b)).2) fun W m => (swrite_any m _ hat _ hdz).mono fun e w' ⟨h1, h2⟩ => ⟨h1, N, by omega, h2.out.more (by omega)⟩
        have HK : Hid (∀ W, Below X.heap.size X W -> HeldW wb s p b A W) := fun W hW => heldW (HWX.out.below hW) (by rw [hW.block b (Array.getElem?_eq_some_iff.1 HXC.out).1]; exact HXC.out)
        obtain ⟨c0, c1, k0, k1, k2, k3, k4⟩ := heldW HWX.out HXC.out
        go_enter Tryz.func14, Tryz.ntmps14
        go_wp2_with fail
        rw [HX.out, HE.out]
        refine (HP.out _).mono ?_
        rintro e w1 ⟨rfl, rfl⟩
        go_wp2_with fail
        go_region_held3 (HeldW wb s p b A)
         (first | exact ⟨c0, c1, k0, k1, k2, k3, k4⟩ | assumption)
         (first
          | (go_at_call 45; refine (HAt.out _).mono ?_; rintro e w2 ⟨rfl, hb2'⟩; have hb2 : Below X.heap.size X w2 := (by first | exact Fr.below_predrew hb2' | exact hb2'); have hh2 := HK.out _ hb2)
          | (go_at_call 46; refine (HDa.out _).mono ?_; rintro e w3 ⟨rfl, hb3'⟩; have hb3 : Below X.heap.size X w3 := hb2.trans (hb3'.mono hb2.size); have hh3 := HK.out _ hb3)
          | (go_at_call 42; refine (C.out _ hb3).mono ?_; rintro e w4 ⟨rfl, HC2, hh4⟩))
        go_wp2
        go_ret3
        exact ⟨rfl, HC2⟩
end
end Go.Proofs.YthambopnmhkeeaaGreat
