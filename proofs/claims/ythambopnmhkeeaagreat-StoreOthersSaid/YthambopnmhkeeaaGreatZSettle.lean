/- What settle leaves behind for every device and every function value that answers numbers up to 256: the pending writes laid on the blocks in order, then none pending. -/
import Derived.Test.YthambopnmhkeeaaGreatZCalls2
import Derived.BigRegion
import Derived.Deep.LoopGhost
import Derived.Shelf.Abstract

set_option maxRecDepth 100000
namespace Go.Proofs.YthambopnmhkeeaaGreat
open Go.RowKit
def layB (x old : ByteArray) (m : Nat) : ByteArray := x.extract 0 m ++ old.extract m old.size
def layOne (d : List ByteArray) (x : Nat × ByteArray) (m : Nat) : List ByteArray := d.set x.1 (layB x.2 (d.getD x.1 ByteArray.empty) m)
def laidTo (f : Nat -> Nat) (pend : List (Nat × ByteArray)) (disk : List ByteArray) : Nat -> List ByteArray
 | 0 => disk
 | k + 1 => match pend[k]? with
  | some x => layOne (laidTo f pend disk k) x (f k)
  | none => laidTo f pend disk k
theorem getD_lt (l : List ByteArray) (i : Nat) (h : i < l.length) : l.getD i ByteArray.empty = l[i] := by simp [List.getD, h]
theorem layB_size (x old : ByteArray) (m : Nat) (hx : x.size = 256) (ho : old.size = 256) (hm : m <= 256) : (layB x old m).size = 256 := by
 simp [layB, hx, ho]; omega
theorem layOne_length (d : List ByteArray) (x : Nat × ByteArray) (m : Nat) : (layOne d x m).length = d.length := by simp [layOne]
theorem laidTo_length (f : Nat -> Nat) (pend : List (Nat × ByteArray)) (disk : List ByteArray) (k : Nat) : (laidTo f pend disk k).length = disk.length := by
 induction k with
 | zero => rfl
 | succ k ih =>
  unfold laidTo; split
  ·rw [layOne_length, ih]
  ·exact ih
theorem laidTo_succ (f : Nat -> Nat) (pend : List (Nat × ByteArray)) (disk : List ByteArray) (k : Nat) (h : k < pend.length) : laidTo f pend disk (k + 1) = layOne (laidTo f pend disk k) pend[k] (f k) := by
 rw [laidTo]; simp [List.getElem?_eq_getElem h]
theorem DevS.Ok.laid {D : DevS} (ok : D.Ok) (f : Nat -> Nat) (hf : ∀ k, k < D.pend.length -> f k <= 256) (k : Nat) : ({ D with disk := laidTo f D.pend D.disk k } : DevS).Ok := by
 refine ⟨by simp [laidTo_length]; exact ok.some, by simp [laidTo_length]; exact ok.few, ?_, by simp only [laidTo_length]; exact ok.pends, ok.fuse0, ok.fuse1⟩
 induction k with
 | zero => exact ok.whole
 | succ k ih =>
  intro s hs
  by_cases hk : k < D.pend.length
  ·have hp := ok.pends D.pend[k] (List.getElem_mem hk)
   simp only at hs ih
   rw [laidTo_succ f D.pend D.disk k hk] at hs
   unfold layOne at hs
   rcases List.mem_or_eq_of_mem_set hs with h | h
   ·exact ih s h
   ·subst h
    refine layB_size _ _ _ hp.2 ?_ (hf k hk)
    have hl : D.pend[k].1 < (laidTo f D.pend D.disk k).length := by rw [laidTo_length]; exact hp.1
    rw [getD_lt _ _ hl]
    exact ih _ (List.getElem_mem hl)
  ·have e : laidTo f D.pend D.disk (k + 1) = laidTo f D.pend D.disk k := by rw [laidTo]; simp [List.getElem?_eq_none (Nat.le_of_not_lt hk)]
   simp only [e] at hs
   exact ih s hs
section
variable {S : Nat -> Prop} {w : World} {p q : Nat} {pv : Value} {D : DevS}
theorem Dev.lay (d : Dev S w p q pv D) (b : Nat) (s : ByteArray) (hs : s.size = 256) : Dev S (w.setCell ⟨q, b, none⟩ (.string s)) p q pv { D with disk := D.disk.set b s } := by
 refine ⟨⟨by simpa using d.ok.some, by simpa using d.ok.few, ?_, by simpa using d.ok.pends, d.ok.fuse0, d.ok.fuse1⟩, ?_, ?_, ?_, d.pq, d.rp, d.rq, d.sp, d.sq, d.sr, fun k hk => by simpa [World.setCell] using d.lt k hk⟩
 ·intro u hu
  rcases List.mem_or_eq_of_mem_set hu with h | h
  ·exact d.ok.whole u h
  ·rw [h]; exact hs
 ·rw [Below.heap_setCell _ _ _ _ d.pq, List.length_set]; exact d.hp
 ·rw [heap_setCell_at d.hq]; simp [List.map_set]
 ·exact ownsRow_setCell_other d.hr (by simpa using d.rq) _
theorem Dev.cq (d : Dev S w p q pv D) (b : Nat) (hb : b < D.disk.length) : w.cell? ⟨q, b, none⟩ = some (.string (D.disk.getD b ByteArray.empty)) := by
 rw [cell_at d.hq]; simp [hb]
theorem Dev.cr {r n cap : Nat} (d : Dev S w p q (.slice (some ⟨r, 0, none⟩) n cap) D) (k : Nat) (hk : k < D.pend.length) :
  w.cell? ⟨r, k * 2, none⟩ = some (.int .i64 (D.pend[k]).1) /\ w.cell? ⟨r, k * 2 + 1, none⟩ = some (.string (D.pend[k]).2) := by
 have h := d.hr.cells (g := r) rfl
 have hadd : ∀ j, (⟨r, 0, none⟩ : Addr).add j = ⟨r, j, none⟩ := fun j => by unfold Addr.add; split <;> simp_all
 have h0 := h (k * 2) _ (flatW_fst D.pend k hk)
 have h1 := h (k * 2 + 1) _ (flatW_snd D.pend k hk)
 rw [hadd] at h0 h1
 exact ⟨h0, h1⟩
theorem Dev.emptied (d : Dev S w p q pv D) : Dev S (w.setCell ⟨p, 1, none⟩ (.slice none 0 0)) p q (.slice none 0 0) { D with pend := [] } :=
 d.put 1 _ _ _ ⟨d.ok.some, d.ok.few, d.ok.whole, (fun x h => by cases h), d.ok.fuse0, d.ok.fuse1⟩ rfl rfl (World.ownsRow_nil _ _ _ _) (by simp [Value.ownBlock]) (by simp [Value.ownBlock]) (fun k hk => by simp [Value.ownBlock] at hk)
set_option maxHeartbeats 1000000 in
theorem settle_none (fv : Value) (d : Dev S w p q (.slice none 0 0) D) :
  Calls Tryz.prog 90 #[.pointer (some ⟨p, 0, none⟩), fv] w fun e w' => e = .returned (.tuple #[]) /\ Dev S w' p q (.slice none 0 0) { D with pend := [] } /\ Only S w w' := by
 have c1 := d.c1; have f1 := d.f 1
 have HD := Lib.hid d; clear d
 go_enter Tryz.func90, Tryz.ntmps90
 go_wp2_with fail
 go_loopw [12] (fun i wr => i = .int .i64 0 /\ wr = w) (fun _ _ => 0)
 case atStart => exact ⟨rfl, rfl⟩
 case round =>
  obtain ⟨rfl, rfl⟩ := hrel
  go_wp2
  go_end0
  exact ⟨rfl, HD.out.emptied, (Only.refl _ _).setCell (fun _ => HD.out.sp) _⟩
set_option maxHeartbeats 1000000 in
theorem settle_some (g : FuncId) (cb : Array Value) (f : Nat -> Nat) (n cap r : Nat) (hn : D.pend.length = n) (hb : n <= 1000000) (hf : ∀ k, k < n -> f k <= 256) (d : Dev S w p q (.slice (some ⟨r, 0, none⟩) n cap) D)
  (eg : ∀ args w, (callFunc g args).run Tryz.prog w = .ok (.enter g args) w)
  (hcall : ∀ (k : Nat) (W : World), k < n -> Only S w W -> Calls Tryz.prog g (#[.int .i64 k] ++ cb) W fun e w' => e = .returned (.int .i64 (f k)) /\ W = w') :
  Calls Tryz.prog 90 #[.pointer (some ⟨p, 0, none⟩), .func (.func g) #[] cb] w fun e w' => e = .returned (.tuple #[]) /\ Dev S w' p q (.slice none 0 0) { D with disk := laidTo f D.pend D.disk n, pend := [] } /\ Only S w w' := by
 have HC := Lib.hid hcall; clear hcall
 have HF := Lib.hid hf; clear hf
 have HN := Lib.hid hn; clear hn
 have c1 := d.c1
 have HD := Lib.hid d; clear d
 go_enter Tryz.func90, Tryz.ntmps90
 go_wp2_with fail
 go_loopw [12] (fun i wr => ∃ k : Nat, k <= n /\ i = .int .i64 k /\ Hid (Dev S wr p q (.slice (some ⟨r, 0, none⟩) n cap) { D with disk := laidTo f D.pend D.disk k } /\ Only S w wr)) (fun i _ => n - (intOf i).toNat)
 case atStart => exact ⟨0, Nat.zero_le _, rfl, HD.out, Only.refl _ _⟩
 case round =>
  clear c1
  obtain ⟨k, hk, rfl, HI⟩ := hrel
  have c1 := HI.out.1.c1
  by_cases hlt : k < n
  ·have hkp : k < D.pend.length := by rw [HN.out]; exact hlt
   have c0 := HI.out.1.c0
   simp only [laidTo_length] at c0
   obtain ⟨d0, d1⟩ := HI.out.1.cr k hkp
   simp only at d0 d1
   have hpd := HD.out.ok.pends D.pend[k] (List.getElem_mem hkp)
   have hbl : D.pend[k].1 < (laidTo f D.pend D.disk k).length := by rw [laidTo_length]; exact hpd.1
   have e0 := HI.out.1.cq D.pend[k].1 hbl
   have e0f : wr.frozen? ⟨q, D.pend[k].1, none⟩ = false := free_at HI.out.1.hq _
   have ho : ((laidTo f D.pend D.disk k).getD D.pend[k].1 ByteArray.empty).size = 256 := by
    rw [getD_lt _ _ hbl]; exact HI.out.1.ok.whole _ (List.getElem_mem hbl)
   have hm : f k <= 256 := HF.out k hlt
   have hcall := HC.out k (wr.alloc (.cells #[.int .i64 D.pend[k].1, .string D.pend[k].2] 63)) hlt (HI.out.2.alloc _)
   have lp := HI.out.1.lt p HI.out.1.sp
   have lq := HI.out.1.lt q HI.out.1.sq
   have hpq := HI.out.1.pq
   have HX : Hid (∀ W, Dev S W p q (.slice (some ⟨r, 0, none⟩) n cap) { D with disk := (laidTo f D.pend D.disk k).set D.pend[k].1 (layB D.pend[k].2 ((laidTo f D.pend D.disk k).getD D.pend[k].1 ByteArray.empty) (f k)) } -> Dev S W p q (.slice (some ⟨r, 0, none⟩) n cap) { D with disk := laidTo f D.pend D.disk (k + 1) }) := by
    intro W h; rw [laidTo_succ f D.pend D.disk k hkp]; exact h
   have HS : Hid ((layB D.pend[k].2 ((laidTo f D.pend D.disk k).getD D.pend[k].1 ByteArray.empty) (f k)).size = 256) := layB_size _ _ _ hpd.2 ho hm
   have HL := Lib.hid (HI.out.1.lay D.pend[k].1 _ HS.out)
   have hd256 := hpd.2
   have hbD := hpd.1
   clear hpd hbl
   simp only at HL e0
   generalize (laidTo f D.pend D.disk k).getD D.pend[k].1 ByteArray.empty = old at *
   generalize D.pend[k] = x at *
   clear hkp
   obtain ⟨b, data⟩ := x
   simp only at *
   generalize f k = m at *
   have hs1 : data.size <= 256 := by omega
   have hs2 : 256 <= data.size := by omega
   have hs3 : old.size <= 256 := by omega
   have hs4 : 256 <= old.size := by omega
   clear hd256 ho
   have hm1 : m <= data.size := by omega
   have hm2 : m <= old.size := by omega
   have HC2 := Lib.hid hcall; clear hcall
   go_wp2_with fail
   refine HC2.out.mono ?_
   rintro e w1 ⟨rfl, rfl⟩
   go_wp2
   go_region
   go_wp2
   go_roundw
   case rel =>
    have hkeep : Only (fun _ => False) (wr.setCell ⟨q, b, none⟩ (.string (layB data old m))) (((wr.setCell ⟨q, b, none⟩ (.string (layB data old m))).alloc (.cells #[.int .i64 b, .string data] 63)).drew) := ((Only.refl _ _).alloc _).drew
    exact ⟨k + 1, by omega, by go_num, HX.out _ (HL.out.kept hkeep (fun _ _ h => h)), ((HI.out.2.setCell (fun _ => HI.out.1.sq) _).alloc _).drew⟩
   case measure => simp [intOf]; omega
  ·have : k = n := by omega
   subst this
   have f1 := HI.out.1.f 1
   go_wp2
   go_end0
   exact ⟨rfl, HI.out.1.emptied, HI.out.2.setCell (fun _ => HI.out.1.sp) _⟩
end
end Go.Proofs.YthambopnmhkeeaaGreat
/- What Flush and Crash answer and leave behind, for every device. -/
set_option maxRecDepth 100000
namespace Go.Proofs.YthambopnmhkeeaaGreat
open Go.RowKit
section
variable {S : Nat -> Prop} {w : World} {p q : Nat} {pv : Value} {D : DevS}
theorem DevS.Ok.settled (ok : D.Ok) (f : Nat -> Nat) (hf : ∀ k, k < D.pend.length -> f k <= 256) : ({ D with disk := laidTo f D.pend D.disk D.pend.length, pend := [] } : DevS).Ok := by
 have h := ok.laid f hf D.pend.length
 exact ⟨h.some, h.few, h.whole, (fun x hx => by cases hx), h.fuse0, h.fuse1⟩
theorem settle_any (g : FuncId) (cb : Array Value) (f : Nat -> Nat) (hb : D.pend.length <= 1000000) (hf : ∀ k, k < D.pend.length -> f k <= 256) (d : Dev S w p q pv D)
  (eg : ∀ args w, (callFunc g args).run Tryz.prog w = .ok (.enter g args) w)
  (hcall : ∀ (k : Nat) (W : World), k < D.pend.length -> Only S w W -> Calls Tryz.prog g (#[.int .i64 k] ++ cb) W fun e w' => e = .returned (.int .i64 (f k)) /\ W = w') :
  Calls Tryz.prog 90 #[.pointer (some ⟨p, 0, none⟩), .func (.func g) #[] cb] w fun e w' => e = .returned (.tuple #[]) /\ Dev S w' p q (.slice none 0 0) { D with disk := laidTo f D.pend D.disk D.pend.length, pend := [] } /\ Only S w w' := by
 rcases d.hr.2 with ⟨rfl, h0⟩ | ⟨r, cap, cur, rfl, _⟩
 ·have e : laidTo f D.pend D.disk D.pend.length = D.disk := by rw [h0]; rfl
  rw [e]
  exact settle_none _ d
 ·exact settle_some g cb f _ cap r rfl hb hf d eg hcall
set_option maxHeartbeats 400000 in
theorem flush1_any (k : Int) (W : World) : Calls Tryz.prog 202 #[.int .i64 k] W fun e w' => e = .returned (.int .i64 256) /\ W = w' := by
 go_enter Tryz.func202, Tryz.ntmps202
 go_wp2
 go_ret
 exact ⟨rfl, rfl⟩
theorem enters_flush1 : ∀ args w, (callFunc 202 args).run Tryz.prog w = .ok (.enter 202 args) w := enters_of Tryz.func202 (by kernel_rfl) rfl
theorem enters_crash1 : ∀ args w, (callFunc 91 args).run Tryz.prog w = .ok (.enter 91 args) w := enters_of Tryz.func91 (by kernel_rfl) rfl
def DevS.fl (D : DevS) : Int × DevS :=
 if D.dead then (4, D) else if D.tk.1 = false then (4, D.tk.2) else (0, { D.tk.2 with disk := laidTo (fun _ => 256) D.pend D.disk D.pend.length, pend := [] })
set_option maxHeartbeats 400000 in
theorem flush_dead (h : w.cell? ⟨p, 4, none⟩ = some (.bool true)) :
  Calls Tryz.prog 170 #[.pointer (some ⟨p, 0, none⟩)] w fun e w' => e = .returned (.int .i64 4) /\ w = w' := by
 go_enter Tryz.func170, Tryz.ntmps170
 go_wp2
 go_ret
 exact ⟨rfl, rfl⟩
set_option maxHeartbeats 400000 in
theorem flush_dies (hde : D.dead = false) (htk : D.tk.1 = false) (d : Dev S w p q pv D) :
  Calls Tryz.prog 170 #[.pointer (some ⟨p, 0, none⟩)] w fun e w' => e = .returned (.int .i64 4) /\ Dev S w' p q pv D.tk.2 /\ Only S w w' := by
 have cT := turn_any d; rw [htk] at cT
 have c4 := d.c4; rw [hde] at c4
 have HT := Lib.hid cT; clear cT
 clear htk d hde
 go_enter Tryz.func170, Tryz.ntmps170
 go_wp2_with fail
 refine HT.out.mono ?_
 rintro e w1 ⟨rfl, hd1, ho1, hz1⟩
 have HD1 := Lib.hid hd1; clear hd1 hz1
 have HO := Lib.hid ho1; clear ho1
 go_wp2
 go_ret
 exact ⟨rfl, HD1.out, HO.out⟩
set_option maxHeartbeats 400000 in
theorem flush_goes (hl : D.pend.length <= 1000000) (hde : D.dead = false) (htk : D.tk.1 = true) (d : Dev S w p q pv D) :
  Calls Tryz.prog 170 #[.pointer (some ⟨p, 0, none⟩)] w fun e w' => e = .returned (.int .i64 0) /\ Dev S w' p q (.slice none 0 0) { D.tk.2 with disk := laidTo (fun _ => 256) D.pend D.disk D.pend.length, pend := [] } /\ Only S w w' := by
 have cT := turn_any d; rw [htk] at cT
 have c4 := d.c4; rw [hde] at c4
 have HT := Lib.hid cT; clear cT
 clear htk d hde
 go_enter Tryz.func170, Tryz.ntmps170
 go_wp2_with fail
 refine HT.out.mono ?_
 rintro e w1 ⟨rfl, hd1, ho1, hz1⟩
 have cS := settle_any 202 #[] (fun _ => 256) (by rw [DevS.tk_pend]; exact hl) (fun _ _ => Nat.le_refl _) hd1 enters_flush1 (fun k W _ _ => flush1_any k W)
 rw [DevS.tk_pend, DevS.tk_disk] at cS
 have HS := Lib.hid cS; clear cS hd1 hz1
 have HO := Lib.hid ho1; clear ho1
 go_wp2_with fail
 refine HS.out.mono ?_
 rintro e w2 ⟨rfl, hd2, ho2⟩
 have HD2 := Lib.hid hd2; clear hd2
 have HO2 := Lib.hid ho2; clear ho2
 go_wp2
 go_ret
 exact ⟨rfl, HD2.out, HO.out.trans HO2.out (fun _ _ h => h)⟩
theorem flush_any (hl : D.pend.length <= 1000000) (d : Stands S w p D) :
  Calls Tryz.prog 170 #[.pointer (some ⟨p, 0, none⟩)] w fun e w' => e = .returned (.int .i64 D.fl.1) /\ Stands S w' p D.fl.2 /\ Only S w w' := by
 obtain ⟨q, pv, d⟩ := d
 by_cases h1 : D.dead = true
 ·have e : D.fl = (4, D) := by simp [DevS.fl, h1]
  rw [e]
  exact (flush_dead (by rw [d.c4, h1])).mono fun e w' ⟨he, hw⟩ => by subst hw; exact ⟨he, ⟨q, pv, d⟩, Only.refl _ _⟩
 ·by_cases h2 : D.tk.1 = false
  ·have e : D.fl = (4, D.tk.2) := by simp [DevS.fl, h1, h2]
   rw [e]
   exact (flush_dies (by simpa using h1) h2 d).mono fun e w' ⟨he, hd, ho⟩ => ⟨he, ⟨q, pv, hd⟩, ho⟩
  ·have e : D.fl = (0, { D.tk.2 with disk := laidTo (fun _ => 256) D.pend D.disk D.pend.length, pend := [] }) := by simp [DevS.fl, h1, h2]
   rw [e]
   exact (flush_goes hl (by simpa using h1) (by simpa using h2) d).mono fun e w' ⟨he, hd, ho⟩ => ⟨he, ⟨q, _, hd⟩, ho⟩
def Bools (S : Nat -> Prop) (W : World) (v : Value) (kl : List Bool) : Prop :=
 ∃ ao cap, v = .slice ao kl.length cap /\ (kl = [] \/ ∃ g off, ao = some ⟨g, off, none⟩ /\ ¬ S g /\ ∀ i (h : i < kl.length), W.cell? ⟨g, off + i, none⟩ = some (.bool kl[i]))
theorem Bools.kept {T : Nat -> Prop} {W W' : World} {v : Value} {kl : List Bool} (h : Bools S W v kl) (ho : Only T W W') (hT : ∀ k, T k -> S k) : Bools S W' v kl := by
 obtain ⟨ao, cap, hv, h⟩ := h
 refine ⟨ao, cap, hv, ?_⟩
 rcases h with h | ⟨g, off, ha, hs, hc⟩
 ·exact .inl h
 ·refine .inr ⟨g, off, ha, hs, fun i hi => ?_⟩
  have := hc i hi
  rw [ho.cell (p := ⟨g, off + i, none⟩) (World.block_lt_of_cell? W _ this) (fun t => hs (hT _ t))]
  exact this
def left (kl : List Bool) (torn : Int) (cut : Nat) (k : Nat) : Nat := if kl[k]? = some true then 256 else if (k : Int) = torn then cut else 0
theorem left_le (kl : List Bool) (torn : Int) (cut k : Nat) (h : cut <= 256) : left kl torn cut k <= 256 := by
 unfold left; split
 ·omega
 ·split <;> omega
set_option maxHeartbeats 1000000 in
theorem crash1_any (kl : List Bool) (torn : Int) (cut k a b c : Nat) (v : Value) (W : World) (hv : Bools S W v kl) (hl : kl.length <= 9223372036854775807)
  (ca : W.cell? ⟨a, 0, none⟩ = some v) (cb : W.cell? ⟨b, 0, none⟩ = some (.int .i64 torn)) (cc : W.cell? ⟨c, 0, none⟩ = some (.int .i64 cut)) :
  Calls Tryz.prog 91 #[.int .i64 k, .pointer (some ⟨a, 0, none⟩), .pointer (some ⟨b, 0, none⟩), .pointer (some ⟨c, 0, none⟩)] W fun e w' => e = .returned (.int .i64 (left kl torn cut k)) /\ W = w' := by
 obtain ⟨ao, cap, rfl, hcells⟩ := hv
 by_cases hlt : k < kl.length
 ·rcases hcells with h | ⟨g, off, rfl, _, hc⟩
  ·subst h; simp at hlt
  ·have hck := hc k hlt
   clear hc
   have e : kl[k]? = some kl[k] := List.getElem?_eq_getElem hlt
   have HE := Lib.hid e; clear e
   generalize kl[k] = kk at *
   generalize kl.length = n at *
   cases kk
   ·by_cases ht : (k : Int) = torn
    ·have ht' : ((k : Int) == torn) = true := by simpa using ht
     have HF : Hid (left kl torn cut k = cut) := by show left kl torn cut k = cut; unfold left; rw [HE.out]; simp [ht]
     have HT := Lib.hid ht; clear ht
     rw [HF.out]
     go_enter Tryz.func91, Tryz.ntmps91
     go_wp2
     go_ret
     exact ⟨rfl, rfl⟩
    ·have ht' : ((k : Int) == torn) = false := by simpa using ht
     have HF : Hid (left kl torn cut k = 0) := by show left kl torn cut k = 0; unfold left; rw [HE.out]; simp [ht]
     clear ht
     rw [HF.out]
     go_enter Tryz.func91, Tryz.ntmps91
     go_wp2
     go_ret
     exact ⟨rfl, rfl⟩
   ·have HF : Hid (left kl torn cut k = 256) := by show left kl torn cut k = 256; unfold left; rw [HE.out]; simp
    rw [HF.out]
    go_enter Tryz.func91, Tryz.ntmps91
    go_wp2
    go_ret
    exact ⟨rfl, rfl⟩
 ·have e : kl[k]? = none := List.getElem?_eq_none (by omega)
  have HE := Lib.hid e; clear e hcells
  generalize kl.length = n at *
  have hge : n <= k := by omega
  clear hlt
  by_cases ht : (k : Int) = torn
  ·have ht' : ((k : Int) == torn) = true := by simpa using ht
   have HF : Hid (left kl torn cut k = cut) := by show left kl torn cut k = cut; unfold left; rw [HE.out]; simp [ht]
   clear ht
   rw [HF.out]
   go_enter Tryz.func91, Tryz.ntmps91
   go_wp2
   go_ret
   exact ⟨rfl, rfl⟩
  ·have ht' : ((k : Int) == torn) = false := by simpa using ht
   have HF : Hid (left kl torn cut k = 0) := by show left kl torn cut k = 0; unfold left; rw [HE.out]; simp [ht]
   clear ht
   rw [HF.out]
   go_enter Tryz.func91, Tryz.ntmps91
   go_wp2
   go_ret
   exact ⟨rfl, rfl⟩
def DevS.crash (D : DevS) (kl : List Bool) (torn cut : Int) : DevS :=
 { disk := laidTo (left kl torn (min (max cut 0) 256).toNat) D.pend D.disk D.pend.length, pend := [], fused := false, fuse := 0, dead := false }
theorem DevS.Ok.crash (ok : D.Ok) (kl : List Bool) (torn cut : Int) : (D.crash kl torn cut).Ok := by
 have h := ok.settled (left kl torn (min (max cut 0) 256).toNat) (fun k _ => left_le _ _ _ _ (by omega))
 exact ⟨h.some, h.few, h.whole, (fun x hx => by cases hx), by simp [DevS.crash], by simp [DevS.crash]⟩
theorem three_new (w : World) (o1 o2 o3 : Obj) : (((w.alloc o1).alloc o2).alloc o3).heap[w.heap.size]? = some o1 /\ (((w.alloc o1).alloc o2).alloc o3).heap[w.heap.size + 1]? = some o2 /\ (((w.alloc o1).alloc o2).alloc o3).heap[w.heap.size + 1 + 1]? = some o3 := by
 have z1 : (w.alloc o1).heap.size = w.heap.size + 1 := by simp
 have z2 : ((w.alloc o1).alloc o2).heap.size = w.heap.size + 1 + 1 := by simp
 refine ⟨?_, ?_, ?_⟩
 ·rw [Below.heap_alloc _ _ _ (by omega), Below.heap_alloc _ _ _ (by omega), heap_alloc_new]
 ·rw [Below.heap_alloc _ _ _ (by omega), <- z1, heap_alloc_new]
 ·rw [<- z2, heap_alloc_new]
set_option maxHeartbeats 1000000 in
theorem crash_cut (kl : List Bool) (torn cut : Int) (c : Nat) (hc : c <= 256) (hcut : (cut < 0 /\ c = 0) \/ (256 < cut /\ c = 256) \/ (0 <= cut /\ cut <= 256 /\ cut = c)) (v : Value) (hl : D.pend.length <= 1000000) (hkl : kl.length <= 9223372036854775807) (d : Dev S w p q pv D) (hv : Bools S w v kl) :
  Calls Tryz.prog 36 #[.pointer (some ⟨p, 0, none⟩), v, .int .i64 torn, .int .i64 cut] w fun e w' => e = .returned (.tuple #[]) /\
   Dev S w' p q (.slice none 0 0) { disk := laidTo (left kl torn c) D.pend D.disk D.pend.length, pend := [], fused := false, fuse := 0, dead := false } /\ Only S w w' := by
 let w3 := ((w.alloc (.cells #[v] 33)).alloc (.cells #[.int .i64 torn] 3)).alloc (.cells #[.int .i64 c] 3)
 have o3 : Only (fun _ => False) w w3 := (((Only.refl _ _).alloc _).alloc _).alloc _
 have d3 : Dev S w3 p q pv D := d.kept o3 (fun _ _ h => h)
 have ca : w3.cell? ⟨w.heap.size, 0, none⟩ = some v := by rw [cell_at (three_new w _ _ _).1]; rfl
 have cb : w3.cell? ⟨w.heap.size + 1, 0, none⟩ = some (.int .i64 torn) := by rw [cell_at (three_new w _ _ _).2.1]; rfl
 have cc : w3.cell? ⟨w.heap.size + 1 + 1, 0, none⟩ = some (.int .i64 c) := by rw [cell_at (three_new w _ _ _).2.2]; rfl
 have z3 : w3.heap.size = w.heap.size + 1 + 1 + 1 := by simp [w3]
 have ns : ∀ k, S k -> k < w.heap.size := d.lt
 have cS := settle_any 91 #[.pointer (some ⟨w.heap.size, 0, none⟩), .pointer (some ⟨w.heap.size + 1, 0, none⟩), .pointer (some ⟨w.heap.size + 1 + 1, 0, none⟩)] (left kl torn c) hl (fun k _ => left_le _ _ _ _ hc) d3 enters_crash1 (fun k W hk hW => by
  have e1 := hW.cell (p := ⟨w.heap.size, 0, none⟩) (by rw [z3]; simp; omega) (fun h => by have := ns _ h; simp at this)
  have e2 := hW.cell (p := ⟨w.heap.size + 1, 0, none⟩) (by rw [z3]; simp) (fun h => by have := ns _ h; simp at this; omega)
  have e3 := hW.cell (p := ⟨w.heap.size + 1 + 1, 0, none⟩) (by rw [z3]; simp) (fun h => by have := ns _ h; simp at this; omega)
  exact crash1_any kl torn c k _ _ _ v W ((hv.kept o3 (fun _ h => h.elim)).kept hW (fun _ h => h)) hkl (e1.trans ca) (e2.trans cb) (e3.trans cc))
 have HS := Lib.hid cS
 have HO3 := Lib.hid o3
 have HNS := Lib.hid ns
 have HV := Lib.hid hv
 have hsh : ∃ ao n cap, v = .slice ao n cap := by obtain ⟨ao, cap, rfl, _⟩ := hv; exact ⟨ao, _, cap, rfl⟩
 clear cS d3 ca cb cc z3 ns o3 d hv hkl
 obtain ⟨ao, n, cap, rfl⟩ := hsh
 rcases hcut with ⟨h1, rfl⟩ | ⟨h1, rfl⟩ | ⟨h1, h2, rfl⟩
 all_goals
  go_enter Tryz.func36, Tryz.ntmps36
  go_wp2_with fail
  refine HS.out.mono ?_
  rintro e w4 ⟨rfl, hd4, ho4⟩
  have cF := fuse_dev (-1) (by omega) hd4
  have HF := Lib.hid cF; clear cF hd4
  have HO4 := Lib.hid ho4; clear ho4
  go_wp2_with fail
  refine HF.out.mono ?_
  rintro e w5 ⟨rfl, hd5, ho5, hz5⟩
  have c4 := hd5.c4
  have f4 := hd5.f 4
  have HD5 := Lib.hid hd5; clear hd5 hz5
  have HO5 := Lib.hid ho5; clear ho5
  go_wp2
  go_end0
  have d6 := HD5.out.put 4 (.bool false) { disk := laidTo (left kl torn _) D.pend D.disk D.pend.length, pend := [], fused := false, fuse := 0, dead := false } _ ⟨HD5.out.ok.some, HD5.out.ok.few, HD5.out.ok.whole, (fun x hx => by cases hx), Int.le_refl 0, by simp⟩ rfl rfl (World.ownsRow_nil _ _ _ _) HD5.out.rp HD5.out.rq HD5.out.sr
  refine ⟨rfl, d6, ?_⟩
  have o4 := (HO3.out.mono (T := S) (fun _ _ h => h.elim)).trans HO4.out (fun _ _ h => h)
  exact (o4.trans HO5.out (fun _ _ h => h)).setCell (fun _ => HD5.out.sp) _
theorem crash_any (kl : List Bool) (torn cut : Int) (v : Value) (hl : D.pend.length <= 1000000) (hkl : kl.length <= 9223372036854775807) (d : Stands S w p D) (hv : Bools S w v kl) :
  Calls Tryz.prog 36 #[.pointer (some ⟨p, 0, none⟩), v, .int .i64 torn, .int .i64 cut] w fun e w' => e = .returned (.tuple #[]) /\ Stands S w' p (D.crash kl torn cut) /\ Only S w w' := by
 obtain ⟨q, pv, d⟩ := d
 exact (crash_cut kl torn cut (min (max cut 0) 256).toNat (by omega) (by omega) v hl hkl d hv).mono fun e w' ⟨he, h1, h2⟩ => ⟨he, ⟨q, _, h1⟩, h2⟩
end
end Go.Proofs.YthambopnmhkeeaaGreat
/- What Read answers for every device: an error, or the data of the last pending write of the block, or what lies on it; nothing that was there is changed. -/
set_option maxRecDepth 100000
namespace Go.Proofs.YthambopnmhkeeaaGreat
open Go.RowKit
def DevS.rdB (D : DevS) (j : Nat) : ByteArray := match D.pend.reverse.find? (fun x => x.1 == j) with | some x => x.2 | none => D.disk.getD j ByteArray.empty
def DevS.rd (D : DevS) (i : Int) : ByteArray × Int := if D.ck i ≠ 0 then (ByteArray.empty, D.ck i) else (D.rdB i.toNat, 0)
theorem find_rev_hit (l : List (Nat × ByteArray)) (j k : Nat) (hk : k < l.length) (hno : ∀ i (h : i < k), (l[l.length - 1 - i]'(by omega)).1 ≠ j) (he : (l[l.length - 1 - k]'(by omega)).1 = j) :
  l.reverse.find? (fun x => x.1 == j) = some (l[l.length - 1 - k]'(by omega)) := by
 rw [List.find?_eq_some_iff_getElem]
 refine ⟨by simpa using he, k, by simpa using hk, ?_, ?_⟩
 ·rw [List.getElem_reverse]
 ·intro i hi
  rw [List.getElem_reverse]
  have := hno i hi
  simpa using this
theorem find_rev_miss (l : List (Nat × ByteArray)) (j : Nat) (hno : ∀ i (h : i < l.length), (l[l.length - 1 - i]'(by omega)).1 ≠ j) : l.reverse.find? (fun x => x.1 == j) = none := by
 rw [List.find?_eq_none]
 intro x hx
 rw [List.mem_reverse, List.mem_iff_getElem] at hx
 obtain ⟨i, hi, rfl⟩ := hx
 have := hno (l.length - 1 - i) (by omega)
 have e : l.length - 1 - (l.length - 1 - i) = i := by omega
 simp only [e] at this
 simpa using this
section
variable {S : Nat -> Prop} {w : World} {p q : Nat} {pv : Value} {D : DevS}
set_option maxHeartbeats 400000 in
theorem read_no (i : Int) (r : Int) (hr : (r != 0) = true) (hck : D.ck i = r) (d : Dev S w p q pv D) :
  Calls Tryz.prog 147 #[.pointer (some ⟨p, 0, none⟩), .int .i64 i] w fun e w' => e = .returned (.tuple #[.string ByteArray.empty, .int .i64 r]) /\ w = w' := by
 have cK := check_any i d; rw [hck] at cK
 have HK := Lib.hid cK; clear cK
 clear hck d
 go_enter Tryz.func147, Tryz.ntmps147
 go_wp2_with fail
 refine HK.out.mono ?_
 rintro e w' ⟨rfl, rfl⟩
 go_wp2
 go_ret2
 exact ⟨rfl, rfl⟩
set_option maxHeartbeats 1000000 in
theorem read_some (j n cap r : Nat) (hn : D.pend.length = n) (hb : n <= 1000000) (hck : D.ck j = 0) (hj : j < D.disk.length) (d : Dev S w p q (.slice (some ⟨r, 0, none⟩) n cap) D) :
  Calls Tryz.prog 147 #[.pointer (some ⟨p, 0, none⟩), .int .i64 j] w fun e w' => e = .returned (.tuple #[.string (D.rdB j), .int .i64 0]) /\ Below w.heap.size w w' := by
 have cK := check_any j d; rw [hck] at cK
 have HK := Lib.hid cK; clear cK hck
 have c1 := d.c1; have c0 := d.c0
 have cq := d.cq j hj
 have hnd := d.ok.few
 have HN := Lib.hid hn; clear hn
 have HD := Lib.hid d; clear d
 generalize D.disk.length = nd at *
 go_enter Tryz.func147, Tryz.ntmps147
 go_wp2_with fail
 refine HK.out.mono ?_
 rintro e w' ⟨rfl, rfl⟩
 go_wp2_with fail
 go_loopw [20] (fun i wr => ∃ k : Nat, k <= n /\ i = .int .i64 k /\ Hid (∀ i (h : i < k) (h' : D.pend.length - 1 - i < D.pend.length), (D.pend[D.pend.length - 1 - i]).1 ≠ j) /\ Hid (Below w.heap.size w wr)) (fun i _ => n - (intOf i).toNat)
 case atStart => exact ⟨0, Nat.zero_le _, rfl, fun i h => absurd h (Nat.not_lt_zero _), Below.refl _ _⟩
 case round =>
  obtain ⟨k, hk, rfl, HNo, HB⟩ := hrel
  have lp := HD.out.lt p HD.out.sp
  have lq := HD.out.lt q HD.out.sq
  have HC1 := Lib.hid c1; clear c1
  have HC0 := Lib.hid c0; clear c0
  have HCQ := Lib.hid cq; clear cq
  have c1 := (HB.out.cell (p := ⟨p, 1, none⟩) lp).trans HC1.out
  by_cases hlt : k < n
  ·obtain ⟨m, b, data, hix, hmn, d0, d1, HX⟩ : ∃ (m b : Nat) (data : ByteArray), (n : Int) - 1 - (k : Int) = (m : Int) /\ m < n /\ wr.cell? ⟨r, m * 2, none⟩ = some (.int .i64 b) /\ wr.cell? ⟨r, m * 2 + 1, none⟩ = some (.string data) /\ Hid (∀ h : D.pend.length - 1 - k < D.pend.length, D.pend[D.pend.length - 1 - k]'h = (b, data)) := by
    have hmp : n - 1 - k < D.pend.length := by rw [HN.out]; omega
    obtain ⟨d0, d1⟩ := HD.out.cr (n - 1 - k) hmp
    have lr := HD.out.lt r (HD.out.sr r rfl)
    refine ⟨n - 1 - k, D.pend[n - 1 - k].1, D.pend[n - 1 - k].2, by omega, by omega, (HB.out.cell (p := ⟨r, _, none⟩) lr).trans d0, (HB.out.cell (p := ⟨r, _, none⟩) lr).trans d1, ?_⟩
    intro h
    have e : D.pend.length - 1 - k = n - 1 - k := by rw [HN.out]
    simp only [e]
   have lpr : p < wr.heap.size := Nat.lt_of_lt_of_le lp HB.out.size
   have lrr : r < wr.heap.size := Nat.lt_of_lt_of_le (HD.out.lt r (HD.out.sr r rfl)) HB.out.size
   have w1 : IntKind.i64.wrap ((n : Int) - 1) = (n : Int) - 1 := IntWalk.i64_in _ (by omega)
   have w2 : IntKind.i64.wrap (m : Int) = (m : Int) := IntWalk.i64_in _ (by omega)
   have hm0 : 0 <= (m : Int) := by omega
   have hmn' : (m : Int) < (n : Int) := by omega
   have hmt : ((m : Int)).toNat = m := by omega
   have hk' : k < D.pend.length := by rw [HN.out]; exact hlt
   by_cases hbj : b = j
   ·have hbj' : ((b : Int) == (j : Int)) = true := by simp [hbj]
    have HE : Hid (D.rdB j = data) := by
     show D.rdB j = data
     unfold DevS.rdB
     rw [find_rev_hit D.pend j k hk' (fun i h => HNo.out i h _) (by rw [HX.out]; exact hbj), HX.out]
    have HBJ := Lib.hid hbj; clear hbj
    go_wp2
    go_region
    go_wp2
    go_ret2
    exact ⟨by rw [HE.out]; rfl, (HB.out.alloc HB.out.size _).drew⟩
   ·have hbj' : ((b : Int) == (j : Int)) = false := by simp; omega
    go_wp2
    go_region
    go_wp2
    go_roundw
    case rel =>
     refine ⟨k + 1, by omega, by go_num, fun i hi h' => ?_, (HB.out.alloc HB.out.size _).drew⟩
     by_cases hik : i = k
     ·subst hik; rw [HX.out]; exact hbj
     ·exact HNo.out i (by omega) h'
    case measure => simp [intOf]; omega
  ·have hkn : k = n := by omega
   have c0 := (HB.out.cell (p := ⟨p, 0, none⟩) lp).trans HC0.out
   have cq := (HB.out.cell (p := ⟨q, j, none⟩) lq).trans HCQ.out
   have HE : Hid (D.rdB j = D.disk.getD j ByteArray.empty) := by
    show D.rdB j = _
    unfold DevS.rdB
    rw [find_rev_miss D.pend j (fun i h => HNo.out i (by rw [hkn, <- HN.out]; exact h) _)]
   have HK2 := Lib.hid hkn; clear hkn
   generalize D.disk.getD j ByteArray.empty = old at *
   go_wp2
   go_ret2
   exact ⟨by rw [HE.out]; rfl, HB.out⟩
set_option maxHeartbeats 1000000 in
theorem read_none (j : Nat) (hn : D.pend = []) (hck : D.ck j = 0) (hj : j < D.disk.length) (d : Dev S w p q (.slice none 0 0) D) :
  Calls Tryz.prog 147 #[.pointer (some ⟨p, 0, none⟩), .int .i64 j] w fun e w' => e = .returned (.tuple #[.string (D.rdB j), .int .i64 0]) /\ w = w' := by
 have cK := check_any j d; rw [hck] at cK
 have HK := Lib.hid cK; clear cK hck
 have c1 := d.c1; have c0 := d.c0
 have cq := d.cq j hj
 have hnd := d.ok.few
 have HE : Hid (D.rdB j = D.disk.getD j ByteArray.empty) := by show D.rdB j = _; unfold DevS.rdB; rw [hn]; rfl
 clear d hn
 generalize D.disk.getD j ByteArray.empty = old at *
 generalize D.disk.length = nd at *
 go_enter Tryz.func147, Tryz.ntmps147
 go_wp2_with fail
 refine HK.out.mono ?_
 rintro e w' ⟨rfl, rfl⟩
 go_wp2_with fail
 go_loopw [20] (fun i wr => i = .int .i64 0 /\ wr = w) (fun _ _ => 0)
 case atStart => exact ⟨rfl, rfl⟩
 case round =>
  obtain ⟨rfl, rfl⟩ := hrel
  go_wp2
  go_ret2
  exact ⟨by rw [HE.out]; rfl, rfl⟩
theorem read_any (i : Int) (hl : D.pend.length <= 1000000) (d : Stands S w p D) :
  Calls Tryz.prog 147 #[.pointer (some ⟨p, 0, none⟩), .int .i64 i] w fun e w' => e = .returned (.tuple #[.string (D.rd i).1, .int .i64 (D.rd i).2]) /\ Below w.heap.size w w' := by
 obtain ⟨q, pv, d⟩ := d
 by_cases h1 : D.ck i = 0
 ·have hk : 0 <= i /\ i < D.disk.length := by
   unfold DevS.ck at h1
   split at h1
   ·omega
   ·split at h1 <;> omega
  obtain ⟨j, rfl⟩ := Int.eq_ofNat_of_zero_le hk.1
  have e : D.rd j = (D.rdB j, 0) := by simp [DevS.rd, h1]
  rw [e]
  rcases d.hr.2 with ⟨rfl, h0⟩ | ⟨r, cap, cur, rfl, _⟩
  ·exact (read_none j (List.eq_nil_of_length_eq_zero h0) h1 (by omega) d).mono fun e w' ⟨he, hw⟩ => by subst hw; exact ⟨he, Below.refl _ _⟩
  ·exact read_some j _ cap r rfl hl h1 (by omega) d
 ·have e : D.rd i = (ByteArray.empty, D.ck i) := by simp [DevS.rd, h1]
  rw [e]
  exact (read_no i _ (by simpa using h1) rfl d).mono fun e w' ⟨he, hw⟩ => by subst hw; exact ⟨he, Below.refl _ _⟩
end
end Go.Proofs.YthambopnmhkeeaaGreat
/- Blocks behind some pending writes: in plain lists. -/
namespace Go.Proofs.YthambopnmhkeeaaGreat
open Go.RowKit
theorem take_snocL {α : Type} (L : List α) (k : Nat) (h : k < L.length) : L.take (k + 1) = L.take k ++ [L[k]] := by
 rw [List.take_succ_eq_append_getElem h]
theorem layB_all (x old : ByteArray) (hx : x.size = 256) (ho : old.size = 256) : layB x old 256 = x := by
 unfold layB
 rw [ho]
 apply ByteArray.ext
 have hx' : x.data.size = 256 := hx
 have e1 : x.data.extract 0 256 = x.data := by rw [<- hx']; exact Array.extract_size
 have e2 : old.data.extract 256 256 = #[] := Array.extract_empty_of_stop_le_start (Nat.le_refl _)
 rw [ByteArray.data_append, ByteArray.data_extract, ByteArray.data_extract, e1, e2, Array.append_empty]
theorem layB_none (x old : ByteArray) : layB x old 0 = old := by
 unfold layB
 simp
theorem laidTo_get (f : Nat -> Nat) (pend : List (Nat × ByteArray)) (disk : List ByteArray) (k j : Nat) (hk : k <= pend.length) (hf : ∀ i, i < k -> f i = 256) (hj : j < disk.length) (hd : ∀ s ∈ disk, s.size = 256) (hp : ∀ x ∈ pend, x.1 < disk.length /\ x.2.size = 256) :
  (laidTo f pend disk k).getD j ByteArray.empty = (match (pend.take k).reverse.find? (fun x => x.1 == j) with | some x => x.2 | none => disk.getD j ByteArray.empty) /\ ((laidTo f pend disk k).getD j ByteArray.empty).size = 256 := by
 induction k generalizing j with
 | zero => exact ⟨rfl, by rw [laidTo, getD_lt _ _ hj]; exact hd _ (List.getElem_mem hj)⟩
 | succ k ih =>
  have hk' : k < pend.length := by omega
  have hx := hp pend[k] (List.getElem_mem hk')
  have ihx := ih pend[k].1 (by omega) (fun i hi => hf i (by omega)) hx.1
  have ihj := ih j (by omega) (fun i hi => hf i (by omega)) hj
  have hlen : (laidTo f pend disk k).length = disk.length := laidTo_length f pend disk k
  rw [laidTo_succ f pend disk k hk', take_snocL pend k hk', List.reverse_append]
  simp only [List.reverse_cons, List.reverse_nil, List.nil_append, List.singleton_append, List.find?_cons]
  have hl : layB pend[k].2 ((laidTo f pend disk k).getD pend[k].1 ByteArray.empty) (f k) = pend[k].2 := by
   rw [hf k (by omega)]; exact layB_all _ _ hx.2 ihx.2
  unfold layOne
  rw [hl]
  by_cases e : pend[k].1 = j
  ·subst e
   have : ((laidTo f pend disk k).set pend[k].1 pend[k].2).getD pend[k].1 ByteArray.empty = pend[k].2 := by simp [List.getD, hlen, hx.1]
   rw [this]
   simp [hx.2]
  ·have : ((laidTo f pend disk k).set pend[k].1 pend[k].2).getD j ByteArray.empty = (laidTo f pend disk k).getD j ByteArray.empty := by simp [List.getD, e]
   rw [this]
   have e' : (pend[k].1 == j) = false := by simpa using e
   simp only [e']
   exact ihj
end Go.Proofs.YthambopnmhkeeaaGreat
