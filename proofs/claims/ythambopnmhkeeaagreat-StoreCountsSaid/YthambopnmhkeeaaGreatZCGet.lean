/- What New, Blocks, Get and Put answer and leave. -/
import Derived.Test.YthambopnmhkeeaaGreatZCKeep
import Derived.Handy

set_option maxRecDepth 100000
namespace Go.Proofs.YthambopnmhkeeaaGreat.Ca
open Go.RowKit
section
variable {S : Nat -> Prop} {w w1 w2 : World} {p bm : Nat} {src ov ov' : Value} {C : CS}
theorem CLeaves.after {S : Nat -> Prop} {w w1 w2 : World} {C' : CS} (h : CLeaves S w1 w2 p src C') (hb : Only S w w1) : CLeaves S w w2 p src C' := by
 obtain ⟨S', hS', hc, hon⟩ := h
 refine ⟨S', fun j hj => ?_, hc, hb.trans hon (fun _ _ h => h)⟩
 rcases hS' j hj with h | h
 ·exact .inl h
 ·exact .inr (Nat.le_trans hb.size h)
theorem CLeaves.below {S : Nat -> Prop} {w w1 w2 : World} {C' : CS} (h : CLeaves S w w1 p src C') (hb : Below w1.heap.size w1 w2) : CLeaves S w w2 p src C' := by
 obtain ⟨S', hS', hc, hon⟩ := h
 exact ⟨S', hS', hc.below hb, hon.trans (Only.of_below S hb (Nat.le_refl _)) (fun _ _ h => h)⟩
theorem map_perm {b : Nat} {L M : List Kp} (h : MapL w b L) (hp : L.Perm M) (hn : (keys L).Nodup) (hw : Wf L) : MapL w b M := by
 unfold MapL at h ⊢
 rw [<- toD_perm hp hn hw, <- hp.length_eq]; exact h
set_option maxHeartbeats 1000000 in
theorem get_hit (i : Int) (k : Nat) (x : Kp) (hf : fx C.L i = some (k, x)) (h : CB S w p bm src ov C) :
  Calls Tryz.prog 98 #[.pointer (some ⟨p, 0, none⟩), .int .i64 i] w fun e w' => e = .returned (.tuple #[.string x.data, .int .i64 0]) /\ CLeaves S w w' p src { C with L := x :: C.L.eraseIdx k } := by
 have c2 := h.raw.c2
 have hlt := h.raw.lt
 have hfs := fx_some hf
 have h2 := hfs.2.2.1
 have HF := Lib.hid hf
 have HB := Lib.hid h
 have hl : C.L.length <= 1024 := by have := h.ok.len; have := h.ok.m1; omega
 have HO := Lib.hid (h.ok.front (y := x) hf rfl (h.ok.ds x (fx_mem hf)) (h.ok.pn x (fx_mem hf)))
 have HMV := Lib.hid (mv_old (y := x) hf h2)
 have HPM : Hid (C.L.Perm (x :: C.L.eraseIdx k)) := by have := perm_front hfs.1; rw [hfs.2.1] at this; exact this.symm
 have HL := Lib.hid hl
 clear hf h hfs h2 hl
 obtain ⟨yi, ys, yd, yn⟩ := x
 obtain ⟨W, hW, l0, l1, l2, hb⟩ := st_new w ys yd (yn : Int)
 have HWE := Lib.hid hW
 have HB2 := Lib.hid (HB.out.below hb)
 have HBL := Lib.hid hb
 have hltw : w.heap.size < W.heap.size := by rw [<- hW]; simp
 have HLT := Lib.hid HB.out.lt
 clear hb hW
 have HU := Lib.hid (use_any i (by rw [keys_len]; have := HL.out; omega) HB2.out.raw)
 go_enter Tryz.func98, Tryz.ntmps98
 go_wp2_with (at_lookup; refine wpList_look_yes _ rfl _ _ rfl rfl rfl HB.out.map HB.out.ok.nodup HB.out.ok.wf k _ HF.out ?_)
 rw [HWE.out]
 refine HU.out.mono ?_
 rintro e w3 ⟨rfl, ov3, hr3, hwh3, ho3⟩
 have l0' : w3.cell? ⟨w.heap.size, 0, none⟩ = some (.string ys) := (ho3.cell (p := ⟨w.heap.size, 0, none⟩) hltw (by
  rintro (e | e)
  ·have e' : w.heap.size = p := e
   omega
  ·have := HLT.out _ (HB.out.sr _ e)
   have : w.heap.size < w.heap.size := this
   omega)).trans l0
 have HC := Lib.hid (HB2.out.used (w1 := W) (Only.refl _ _) (map_perm HB2.out.map HPM.out HB2.out.ok.nodup HB2.out.ok.wf) HO.out HMV.out hr3 hwh3 ho3)
 clear hr3 hwh3 ho3 l0 l1 l2
 go_wp2
 go_ret2
 exact ⟨rfl, HC.out.after (Only.of_below _ HBL.out (Nat.le_refl _))⟩
theorem CB.miss (h : CB S w p bm src ov C) (hm : C.misses < 1000000) : CB S (w.setCell ⟨p, 4, none⟩ (.int .i64 ((C.misses : Int) + 1))) p bm src ov { C with misses := C.misses + 1 } := by
 refine ⟨⟨h.ok.nodup, h.ok.len, h.ok.m0, h.ok.m1, hm, h.ok.wf, h.ok.ds, h.ok.pn⟩, ⟨?_, ownsRow_setCell_other h.raw.hr h.raw.rp _, h.raw.rp⟩, h.map.kept (Below.heap_setCell _ _ _ _ h.bp), h.bp, h.rb, h.sp, h.sb, h.sr, fun k hk => by simpa [World.setCell] using h.lt k hk⟩
 rw [heap_setCell_at h.raw.hp]; rfl
set_option maxHeartbeats 2000000 in
theorem get_miss (i : Int) (hi : -9223372036854775808 <= i /\ i <= 9223372036854775807) (hf : fx C.L i = none) (tS : TypeId) (recv : Value) (hsv : src = .iface tS recv) (h : CB S w p bm src ov C) (hms : C.misses < 1000000)
  (f : FuncId) (t : ByteArray) (er : Int) (ht : t.size <= 1000000) (T : Nat -> Prop) (R : World -> Prop) (hT : ∀ k, T k -> ¬ S k /\ k < w.heap.size)
  (hmeth : ∀ w, (method (Tryz.prog.types.size + Made.depth) tS recv "Read").run Tryz.prog w = .ok (f, recv) w) (henter : ∀ args w, (callFunc f args).run Tryz.prog w = .ok (.enter f args) w)
  (hsrc : ∀ W, Below w.heap.size w W -> Calls Tryz.prog f #[recv, .int .i64 i] W fun e w' => e = .returned (.tuple #[.string t, .int .i64 er]) /\ Only T W w' /\ R w') :
  Calls Tryz.prog 98 #[.pointer (some ⟨p, 0, none⟩), .int .i64 i] w fun e w' => ∃ w1, R w1 /\ Only T w w1 /\ e = .returned (.tuple #[.string (C.get i t er).1.1, .int .i64 (C.get i t er).1.2]) /\ CLeaves S w1 w' p src (C.get i t er).2 := by
 subst hsv
 have c0 := h.raw.c0
 have c2 := h.raw.c2
 have hlt := h.raw.lt
 have HF := Lib.hid hf
 have HI := Lib.hid hi
 have HB := Lib.hid h
 have HT := Lib.hid hT
 have HMS := Lib.hid hms
 have HTT := Lib.hid ht
 obtain ⟨W, hW, l0, l1, l2, hb⟩ := st_new w ⟨#[]⟩ false 0
 have HWE := Lib.hid hW
 have c01 : (w.alloc (.cells #[.string ⟨#[]⟩, .bool false, .int .i64 0] 180)).cell? ⟨p, 0, none⟩ = some (.iface tS recv) := by rw [hW]; exact (hb.cell (p := ⟨p, 0, none⟩) hlt).trans c0
 have HBL := Lib.hid hb
 have HSRC := Lib.hid (hsrc W hb)
 clear hb hW hf hi h hT hms hsrc c0 l0 l1 l2 ht
 go_enter Tryz.func98, Tryz.ntmps98
 go_wp2_with (at_lookup; refine wpList_look_no _ rfl _ _ rfl rfl rfl HB.out.map HI.out HF.out ?_)
 rw [HWE.out]
 have hm3 : ∀ m, m = Tryz.prog.types.size + Made.depth -> ∀ w, (method m tS recv "Read").run Tryz.prog w = .ok (f, recv) w := fun m e w => e ▸ hmeth w
 rw [hm3 _ (by kernel_rfl) W]
 clear hm3 hmeth c01 c2
 simp only [Result.andThen_ok]
 rw [henter, Oper.upon_enter]
 clear henter
 refine HSRC.out.mono ?_
 rintro e w1 ⟨rfl, hoT, hR⟩
 have HOT : Hid (Only T w w1) := (Only.of_below T HBL.out (Nat.le_refl _)).trans hoT (fun _ _ h => h)
 have HRR := Lib.hid hR
 have HB1 := Lib.hid (HB.out.kept HOT.out (fun k hk ht => (HT.out k ht).1 hk))
 clear hoT hR HSRC
 by_cases he : er = 0
 ·subst he
  have HK := Lib.hid (keep_new i t false HI.out HF.out HB1.out HTT.out)
  go_wp2_with fail
  refine HK.out.mono ?_
  rintro e w2 (⟨M, hr, rfl, S', hS', ⟨bm', ov', hcb⟩, hon⟩ | ⟨hr, rfl, hl⟩)
  ·have eg : C.get i t 0 = ((t, 0), { C with L := ⟨i, t, false, 0⟩ :: M, misses := C.misses + 1 }) := by unfold CS.get; rw [HF.out, hr]; simp
   have HEG := Lib.hid eg
   have c4 := hcb.raw.c4
   have f4 := hcb.raw.f 4
   have HCM := Lib.hid (hcb.miss HMS.out)
   have HS' := Lib.hid hS'
   have HON := Lib.hid hon
   have hsp : S p := HB.out.sp
   have hmi : (C.misses : Int) < 1000000 := by have := HMS.out; omega
   clear hcb hS' hon eg hr HK
   go_wp2
   go_ret2
   refine ⟨w1, HRR.out, HOT.out, by rw [HEG.out]; rfl, ?_⟩
   rw [HEG.out]
   exact ⟨S', HS'.out, ⟨bm', ov', HCM.out⟩, HON.out.setCell (fun _ => hsp) _⟩
  ·have eg : C.get i t 0 = ((⟨#[]⟩, 14), C) := by unfold CS.get; rw [HF.out, hr]; simp
   have HEG := Lib.hid eg
   have HLL := Lib.hid hl
   clear eg hr hl HK
   go_wp2
   go_ret2
   exact ⟨w1, HRR.out, HOT.out, by rw [HEG.out]; rfl, by rw [HEG.out]; exact HLL.out⟩
 ·have eg : C.get i t er = ((⟨#[]⟩, er), C) := by unfold CS.get; rw [HF.out]; simp [he]
  have HEG := Lib.hid eg
  have hne : (er != 0) = true := by simp [he]
  clear eg he
  go_wp2
  go_ret2
  exact ⟨w1, HRR.out, HOT.out, by rw [HEG.out]; rfl, by rw [HEG.out]; exact HB1.out.leaves (Only.refl _ _)⟩
end
end Go.Proofs.YthambopnmhkeeaaGreat.Ca
/- What Get answers over the statements' source; what Put, New and Blocks answer and leave. -/
set_option maxRecDepth 100000
namespace Go.Proofs.YthambopnmhkeeaaGreat.Ca
open Go.RowKit
section
variable {S : Nat -> Prop} {w w1 w2 : World} {p bm : Nat} {src ov ov' : Value} {C : CS}
set_option maxHeartbeats 1000000 in
theorem put_bad (i : Int) (s : ByteArray) (hs : s.size ≠ 256) :
  Calls Tryz.prog 156 #[.pointer (some ⟨p, 0, none⟩), .int .i64 i, .string s] w fun e w' => e = .returned (.int .i64 3) /\ w = w' := by
 have hs' : ((s.size : Int) != 256) = true := by simp; omega
 clear hs
 go_enter Tryz.func156, Tryz.ntmps156
 go_wp2
 go_ret
 exact ⟨rfl, rfl⟩
set_option maxHeartbeats 1000000 in
theorem put_old (i : Int) (s : ByteArray) (hs : s.size = 256) (k : Nat) (x : Kp) (hf : fx C.L i = some (k, x)) (h : CB S w p bm src ov C) :
  Calls Tryz.prog 156 #[.pointer (some ⟨p, 0, none⟩), .int .i64 i, .string s] w fun e w' => e = .returned (.int .i64 0) /\ CLeaves S w w' p src { C with L := ⟨i, s, true, x.pins⟩ :: C.L.eraseIdx k } := by
 have c2 := h.raw.c2
 have hs' : ((s.size : Int) != 256) = false := by simp [hs]
 have HSS : Hid (s.size <= 1000000) := by show _ <= _; omega
 have HF := Lib.hid hf
 have HB := Lib.hid h
 have HPN := Lib.hid (h.ok.pn x (fx_mem hf))
 clear hf h hs
 obtain ⟨yi, ys, yd, yn⟩ := x
 obtain ⟨W, hW, _, _, _, hb⟩ := st_new w s true (yn : Int)
 have HWE := Lib.hid hW
 have HBL := Lib.hid hb
 have HK := Lib.hid (keep_old i k _ s true yn HF.out (HB.out.below hb) HSS.out HPN.out)
 clear hW hb
 go_enter Tryz.func156, Tryz.ntmps156
 go_wp2_with (at_lookup; refine wpList_has_yes _ rfl _ _ rfl rfl rfl HB.out.map HB.out.ok.nodup HB.out.ok.wf k _ HF.out ?_)
 rw [HWE.out]
 refine HK.out.mono ?_
 rintro e w2 ⟨rfl, hl⟩
 have HLL := Lib.hid hl; clear hl
 go_wp2
 go_ret
 exact ⟨rfl, HLL.out.after (Only.of_below _ HBL.out (Nat.le_refl _))⟩
set_option maxHeartbeats 1000000 in
theorem put_new (i : Int) (hi : -9223372036854775808 <= i /\ i <= 9223372036854775807) (s : ByteArray) (hs : s.size = 256) (hf : fx C.L i = none) (h : CB S w p bm src ov C) :
  Calls Tryz.prog 156 #[.pointer (some ⟨p, 0, none⟩), .int .i64 i, .string s] w fun e w' => (∃ M, room C.L C.most = some M /\ e = .returned (.int .i64 0) /\ CLeaves S w w' p src { C with L := ⟨i, s, true, 0⟩ :: M }) \/ (room C.L C.most = none /\ e = .returned (.int .i64 14) /\ CLeaves S w w' p src C) := by
 have c2 := h.raw.c2
 have hs' : ((s.size : Int) != 256) = false := by simp [hs]
 have HSS : Hid (s.size <= 1000000) := by show _ <= _; omega
 have HF := Lib.hid hf
 have HI := Lib.hid hi
 have HB := Lib.hid h
 clear hf h hs hi
 obtain ⟨W, hW, _, _, _, hb⟩ := st_new w s true 0
 have HWE := Lib.hid hW
 have HBL : Hid (Only S w W) := Only.of_below _ hb (Nat.le_refl _)
 have HK := Lib.hid (keep_new i s true HI.out HF.out (HB.out.below hb) HSS.out)
 clear hW hb
 go_enter Tryz.func156, Tryz.ntmps156
 go_wp2_with (at_lookup; refine wpList_has_no _ rfl _ _ rfl rfl rfl HB.out.map HI.out HF.out ?_)
 rw [HWE.out]
 refine HK.out.mono ?_
 rintro e w2 (⟨M, hr, rfl, hl⟩ | ⟨hr, rfl, hl⟩)
 ·have HLL := Lib.hid hl; have HR := Lib.hid hr; clear hl hr HK
  go_wp2
  go_ret
  exact .inl ⟨M, HR.out, rfl, HLL.out.after HBL.out⟩
 ·have HLL := Lib.hid hl; have HR := Lib.hid hr; clear hl hr HK
  go_wp2
  go_ret
  exact .inr ⟨HR.out, rfl, HLL.out.after HBL.out⟩
theorem put_any (i : Int) (hi : -9223372036854775808 <= i /\ i <= 9223372036854775807) (s : ByteArray) (h : Cch S w p src C) :
  Calls Tryz.prog 156 #[.pointer (some ⟨p, 0, none⟩), .int .i64 i, .string s] w fun e w' => e = .returned (.int .i64 (C.put i s).1) /\ CLeaves S w w' p src (C.put i s).2 := by
 by_cases hs : s.size = 256
 ·obtain ⟨bm, ov, h⟩ := h
  cases hf : fx C.L i with
  | none =>
   refine (put_new i hi s hs hf h).mono fun e w' h' => ?_
   rcases h' with ⟨M, hr, he, hl⟩ | ⟨hr, he, hl⟩
   ·have e : C.put i s = (0, { C with L := ⟨i, s, true, 0⟩ :: M }) := by unfold CS.put; rw [if_neg (by simp [hs]), hf, hr]
    rw [e]; exact ⟨he, hl⟩
   ·have e : C.put i s = (14, C) := by unfold CS.put; rw [if_neg (by simp [hs]), hf, hr]
    rw [e]; exact ⟨he, hl⟩
  | some ky =>
   obtain ⟨k, y⟩ := ky
   have h2 := (fx_some hf).2.2.1
   have e : C.put i s = (0, { C with L := ⟨i, s, true, y.pins⟩ :: C.L.eraseIdx k }) := by unfold CS.put; rw [if_neg (by simp [hs]), hf, <- h2]
   rw [e]; exact put_old i s hs k y hf h
 ·have e : C.put i s = (3, C) := by unfold CS.put; rw [if_pos hs]
  rw [e]
  refine (put_bad i s hs).mono fun e w' ⟨he, hw⟩ => ⟨he, ?_⟩
  subst hw
  obtain ⟨bm, ov, h⟩ := h
  exact h.leaves (Only.refl _ _)
end
end Go.Proofs.YthambopnmhkeeaaGreat.Ca
/- What New and Blocks answer and leave. -/
set_option maxRecDepth 100000
namespace Go.Proofs.YthambopnmhkeeaaGreat.Ca
open Go.RowKit
def CS.new (m : Nat) : CS := ⟨[], m, 0⟩
theorem CS.new_ok {m : Nat} (h : 1 <= m /\ m <= 1024) : (CS.new m).Ok := ⟨List.nodup_nil, Nat.zero_le _, h.1, h.2, Nat.zero_le _, fun x hx => (by cases hx), fun x hx => (by cases hx), fun x hx => (by cases hx)⟩
theorem new_world (w : World) (src : Value) (m : Nat) (h1 : 1 <= m) (h2 : m <= 1024) : ∃ S : Nat -> Prop, (∀ k, S k -> w.heap.size <= k) /\
  Cch S ((w.alloc (.map #[] 0)).alloc (.cells #[src, .int .i64 (m : Int), .map (some w.heap.size), .slice none 0 0, .int .i64 0] 177)) (w.heap.size + 1) src (CS.new m) /\
  Below w.heap.size w ((w.alloc (.map #[] 0)).alloc (.cells #[src, .int .i64 (m : Int), .map (some w.heap.size), .slice none 0 0, .int .i64 0] 177)) := by
 have hs : (w.alloc (.map #[] 0)).heap.size = w.heap.size + 1 := by simp
 refine ⟨fun k => k = w.heap.size \/ k = w.heap.size + 1, fun k hk => by omega, ⟨w.heap.size, .slice none 0 0, CS.new_ok ⟨h1, h2⟩, ⟨?_, World.ownsRow_nil _ _ _ _, by simp [Value.ownBlock]⟩, ?_, by omega, by simp [Value.ownBlock], .inr rfl, .inl rfl, fun k hk => (by cases hk), fun k hk => (by simp; omega)⟩, ((Below.refl _ _).alloc (Nat.le_refl _) _).alloc (by simp) _⟩
 ·rw [<- hs, heap_alloc_new]; rfl
 ·have := (World.ownsMap_made w Tryz.prog 3 stE).alloc (.cells #[src, .int .i64 (m : Int), .map (some w.heap.size), .slice none 0 0, .int .i64 0] 177)
  exact this
section
variable {S : Nat -> Prop} {w w1 w2 : World} {p bm : Nat} {ov ov' : Value} {C : CS}
set_option maxHeartbeats 1000000 in
theorem new_yes (tS : TypeId) (r : Value) (m : Nat) (w : World) (h1 : 1 <= m) (h2 : m <= 1024) :
  Calls Tryz.prog 86 #[.iface tS r, .int .i64 (m : Int)] w fun e w' => ∃ p, e = .returned (.tuple #[.pointer (some ⟨p, 0, none⟩), .int .i64 0]) /\ ∃ S : Nat -> Prop, (∀ k, S k -> w.heap.size <= k) /\ Cch S w' p (.iface tS r) (CS.new m) /\ Below w.heap.size w w' := by
 have hmm := @run_makeMap Tryz.prog
 have hn1 : ¬ (m : Int) < 1 := by omega
 have hn2 : ¬ (1024 : Int) < (m : Int) := by omega
 go_enter Tryz.func86, Tryz.ntmps86
 go_wp2
 go_ret2
 exact ⟨_, rfl, new_world w _ m h1 h2⟩
end
end Go.Proofs.YthambopnmhkeeaaGreat.Ca
