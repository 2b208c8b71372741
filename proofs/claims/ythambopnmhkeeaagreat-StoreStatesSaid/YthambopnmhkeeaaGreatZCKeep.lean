/- What keep answers and leaves. -/
import Derived.Test.YthambopnmhkeeaaGreatZCBack
import Derived.Test.YthambopnmhkeeaaGreatZCUse
import Derived.Test.YthambopnmhkeeaaGreatZFBase
import Derived.Test.YthambopnmhkeeaaGreatZCalls2
import Derived.BigQuiet
import Derived.Deep.QuietTactic
import Derived.Lib.MinMax

set_option maxRecDepth 100000
namespace Go.Proofs.YthambopnmhkeeaaGreat.Ca
open Go.RowKit
section
variable {S : Nat -> Prop} {w w1 w2 : World} {p bm : Nat} {src ov ov' : Value} {C : CS}
theorem CB.used {L' : List Kp} {i : Int} (h : CB S w p bm src ov C) (ho : Only (fun k => k = bm) w w1) (hm : MapL w1 bm L') (ok : ({ C with L := L' } : CS).Ok) (hk : mv (keys C.L) i = keys L') (hr : Raw w2 p bm src ov' (C.most : Int) (C.misses : Int) (mv (keys C.L) i))
  (hwh : ∀ k, ov'.ownBlock = some k -> ov.ownBlock = some k \/ w1.heap.size <= k) (ho2 : Only (fun k => k = p \/ ov.ownBlock = some k) w1 w2) : CLeaves S w w2 p src { C with L := L' } := by
 have hbl := hm.lt
 have hsz := ho.size
 have hsz2 := ho2.size
 refine ⟨fun k => S k \/ ov'.ownBlock = some k, fun k hk' => ?_, ⟨bm, ov', ok, by rw [hk] at hr; exact hr, hm.kept (ho2.block bm hbl ?_), h.bp, ?_, .inl h.sp, .inl h.sb, fun k hk => .inr hk, ?_⟩, (ho.mono (fun j _ e => e ▸ h.sb)).trans ho2 (fun j hj e => ?_)⟩
 ·rcases hk' with hk' | hk'
  ·exact .inl hk'
  ·rcases hwh k hk' with h1 | h1
   ·exact .inl (h.sr k h1)
   ·exact .inr (by omega)
 ·rintro (e | e)
  ·exact h.bp e
  ·exact h.rb e
 ·intro e
  rcases hwh bm e with h1 | h1
  ·exact h.rb h1
  ·omega
 ·rintro k (hk | hk)
  ·have := h.lt k hk; omega
  ·exact (hr.hr.lt k hk).2
 ·rcases e with e | e
  ·exact e ▸ h.sp
  ·exact h.sr j e
set_option maxHeartbeats 1000000 in
theorem keep_old (i : Int) (k : Nat) (x : Kp) (s : ByteArray) (d : Bool) (m : Nat) (hf : fx C.L i = some (k, x)) (h : CB S w p bm src ov C) (hs : s.size <= 1000000) (hm : m <= 1000000) :
  Calls Tryz.prog 153 #[.pointer (some ⟨p, 0, none⟩), .int .i64 i, .agg #[.string s, .bool d, .int .i64 (m : Int)]] w fun e w' => e = .returned (.int .i64 0) /\ CLeaves S w w' p src { C with L := ⟨i, s, d, m⟩ :: C.L.eraseIdx k } := by
 have c2 := h.raw.c2
 have hlt := h.raw.lt
 have hfs := fx_some hf
 have h2 := hfs.2.2.1
 have HI := Lib.hid (show -9223372036854775808 <= i /\ i <= 9223372036854775807 by rw [<- h2]; exact h.ok.wf x (fx_mem hf))
 have HF := Lib.hid hf
 have HB := Lib.hid h
 have hl : C.L.length <= 1024 := by have := h.ok.len; have := h.ok.m1; omega
 have HP := Lib.hid (toD_put_front (y := ⟨i, s, d, m⟩) h.ok.nodup h.ok.wf hf rfl)
 have HO := Lib.hid (h.ok.front (y := ⟨i, s, d, m⟩) hf h2.symm hs hm)
 have HMV := Lib.hid (mv_old (y := ⟨i, s, d, m⟩) hf rfl)
 have HL := Lib.hid hl
 clear hf h hfs h2 hl
 obtain ⟨yi, ys, yd, yn⟩ := x
 obtain ⟨W1, hW1, a0, a1, a2, hb1⟩ := st_new w s d (m : Int)
 obtain ⟨W, hW, _, _, _, hb2⟩ := st_new W1 ys yd (yn : Int)
 have hsz1 := hb1.size
 have hlt1 : w.heap.size < W1.heap.size := by rw [<- hW1]; simp
 have b0 := (hb2.cell (p := ⟨w.heap.size, 0, none⟩) hlt1).trans a0
 have b1 := (hb2.cell (p := ⟨w.heap.size, 1, none⟩) hlt1).trans a1
 have b2 := (hb2.cell (p := ⟨w.heap.size, 2, none⟩) hlt1).trans a2
 have c21 := (hb1.cell (p := ⟨p, 2, none⟩) hlt).trans c2
 have c22 := (hb2.cell (p := ⟨p, 2, none⟩) (by show p < _; omega)).trans c21
 have HB1 := Lib.hid (HB.out.below hb1)
 have hbb : Below w.heap.size w W := hb1.trans (hb2.mono hsz1)
 have HB2 := Lib.hid (HB.out.below hbb.drew)
 have HOn : Hid (Only S w W.drew) := Only.of_below _ hbb.drew (Nat.le_refl _)
 clear hb1 hb2 hbb hsz1 a0 a1 a2 c2 hs hm
 go_enter Tryz.func153, Tryz.ntmps153
 go_wp2_with (at_lookup; refine wpList_look_yes _ rfl _ _ rfl rfl rfl HB1.out.map HB1.out.ok.nodup HB1.out.ok.wf k _ HF.out ?_)
 clear hW hW1
 go_still_tail 6, (by kernel_rfl)
 refine wpList_upd _ ?ug (.tmp 29) (.tmp 30) (.tmp 31) ?uh ?um ?ux HB2.out.map (Nat.le_trans HL.out (by decide)) HI.out ⟨i, s, d, m⟩ ?uv _ HP.out ?_
 case ug => rfl
 case uh => rfl
 case um => rfl
 case ux => rfl
 case uv => rfl
 intro w2 hm2 ho2
 have hR := HB2.out.raw.kept ho2.out (fun e => HB2.out.bp e.symm) (fun j hj e => HB2.out.rb (e ▸ hj))
 have HU := Lib.hid (use_any i (by rw [keys_len]; have := HL.out; omega) hR)
 clear hR
 go_wp2_with fail
 refine HU.out.mono ?_
 rintro e w3 ⟨rfl, ov3, hr3, hwh3, ho3⟩
 have HC := Lib.hid (HB2.out.used ho2.out hm2.out HO.out HMV.out hr3 hwh3 ho3)
 clear hr3 hwh3 ho3
 go_wp2
 go_ret
 obtain ⟨S', hS', hc, hon⟩ := HC.out
 refine ⟨rfl, S', fun j hj => ?_, hc, HOn.out.trans hon (fun _ _ h => h)⟩
 rcases hS' j hj with h | h
 ·exact .inl h
 ·exact .inr (Nat.le_trans HOn.out.size h)
set_option maxHeartbeats 1000000 in
theorem keep_new (i : Int) (s : ByteArray) (d : Bool) (hi : -9223372036854775808 <= i /\ i <= 9223372036854775807) (hf : fx C.L i = none) (h : CB S w p bm src ov C) (hs : s.size <= 1000000) :
  Calls Tryz.prog 153 #[.pointer (some ⟨p, 0, none⟩), .int .i64 i, .agg #[.string s, .bool d, .int .i64 0]] w fun e w' =>
   (∃ M, room C.L C.most = some M /\ e = .returned (.int .i64 0) /\ CLeaves S w w' p src { C with L := ⟨i, s, d, 0⟩ :: M }) \/ (room C.L C.most = none /\ e = .returned (.int .i64 14) /\ CLeaves S w w' p src C) := by
 have c2 := h.raw.c2
 have hlt := h.raw.lt
 have HI := Lib.hid hi
 have HF := Lib.hid hf
 have HB := Lib.hid h
 have hl : C.L.length <= 1024 := by have := h.ok.len; have := h.ok.m1; omega
 have HL := Lib.hid hl
 have HSZ := Lib.hid hs
 have HLT := Lib.hid h.lt
 clear hf h hl hi hs
 obtain ⟨W1, hW1, a0, a1, a2, hb1⟩ := st_new w s d 0
 obtain ⟨W, hW, _, _, _, hb2⟩ := st_new W1 ⟨#[]⟩ false 0
 have hsz1 := hb1.size
 have hlt1 : w.heap.size < W1.heap.size := by rw [<- hW1]; simp
 have hlt2 : w.heap.size < W.heap.size := Nat.lt_of_lt_of_le hlt1 hb2.size
 have b0 := (hb2.cell (p := ⟨w.heap.size, 0, none⟩) hlt1).trans a0
 have b1 := (hb2.cell (p := ⟨w.heap.size, 1, none⟩) hlt1).trans a1
 have b2 := (hb2.cell (p := ⟨w.heap.size, 2, none⟩) hlt1).trans a2
 have c21 := (hb1.cell (p := ⟨p, 2, none⟩) hlt).trans c2
 have HB1 := Lib.hid (HB.out.below hb1)
 have hbb : Below w.heap.size w W := hb1.trans (hb2.mono hsz1)
 have HB2 := Lib.hid (HB.out.below hbb)
 have HOn : Hid (Only S w W) := Only.of_below _ hbb (Nat.le_refl _)
 have HR := Lib.hid (room_any HB2.out)
 have HWE := Lib.hid hW
 clear hb1 hb2 hbb hsz1 a0 a1 a2 c2 hW
 go_enter Tryz.func153, Tryz.ntmps153
 go_wp2_with (at_lookup; refine wpList_look_no _ rfl _ _ rfl rfl rfl HB1.out.map HI.out HF.out ?_)
 rw [HWE.out]
 clear hW1
 refine HR.out.mono ?_
 rintro e w3 ⟨hon, (⟨M, ov', hr, rfl, hcb⟩ | ⟨hr, rfl, hcb⟩)⟩
 ·have hns : ¬ S w.heap.size := fun hS => by have := HLT.out _ hS; omega
  have d0 := (hon.cell (p := ⟨w.heap.size, 0, none⟩) hlt2 hns).trans b0
  have d1 := (hon.cell (p := ⟨w.heap.size, 1, none⟩) hlt2 hns).trans b1
  have d2 := (hon.cell (p := ⟨w.heap.size, 2, none⟩) hlt2 hns).trans b2
  have e2 := hcb.raw.c2
  have HOR : Hid (Only S w w3) := HOn.out.trans hon (fun _ _ h => h)
  have HCB := Lib.hid hcb
  have HRM := Lib.hid hr
  have HFM : Hid (fx M i = none) := fx_none_iff.2 (fun hm => fx_none_iff.1 HF.out (((room_sub hr).map _).subset hm))
  have HML : Hid (M.length <= 1024) := Nat.le_trans (room_sub hr).length_le HL.out
  have HP := Lib.hid (toD_put_new (y := ⟨i, s, d, 0⟩) hcb.ok.nodup hcb.ok.wf HI.out HFM.out)
  have HOK : Hid (({ C with L := ⟨i, s, d, 0⟩ :: M } : CS).Ok) := HB.out.ok.fresh HI.out HF.out hr HSZ.out d (m := C.misses) HB.out.ok.ms
  have HMV := Lib.hid (mv_new (y := ⟨i, s, d, 0⟩) HFM.out rfl)
  clear hon hcb hr b0 b1 b2 c21 hns
  go_wp2
  go_still_tail 6, (by kernel_rfl)
  refine wpList_upd _ ?ug (.tmp 29) (.tmp 30) (.tmp 31) ?uh ?um ?ux (HCB.out.map.kept rfl) (Nat.le_trans HML.out (by decide)) HI.out ⟨i, s, d, 0⟩ ?uv _ HP.out ?_
  case ug => rfl
  case uh => rfl
  case um => rfl
  case ux => rfl
  case uv => rfl
  intro w4 hm4 ho4
  have HD : Hid (CB S w3.drew p bm src ov' { C with L := M }) := HCB.out.kept (T := fun _ => False) ⟨rfl, rfl, rfl, Nat.le_refl _, fun _ _ _ => rfl⟩ (fun _ _ => id)
  have hR := HD.out.raw.kept ho4.out (fun e => HD.out.bp e.symm) (fun j hj e => HD.out.rb (e ▸ hj))
  have HU := Lib.hid (use_any i (by show (keys M).length <= 5000; rw [keys_len]; have := HML.out; omega) hR)
  clear hR
  go_wp2_with fail
  refine HU.out.mono ?_
  rintro e w5 ⟨rfl, ov3, hr3, hwh3, ho3⟩
  have HC := Lib.hid (HD.out.used ho4.out hm4.out HOK.out HMV.out hr3 hwh3 ho3)
  clear hr3 hwh3 ho3
  go_wp2
  go_ret
  obtain ⟨S', hS', hc, hon⟩ := HC.out
  refine .inl ⟨M, HRM.out, rfl, S', fun j hj => ?_, hc, HOR.out.trans (⟨hon.os, hon.tape, hon.output, hon.size, hon.block⟩ : Only S w3 _) (fun _ _ h => h)⟩
  rcases hS' j hj with h | h
  ·exact .inl h
  ·exact .inr (Nat.le_trans HOR.out.size h)
 ·have HOR : Hid (Only S w w3) := HOn.out.trans hon (fun _ _ h => h)
  have HCB := Lib.hid hcb
  have HRM := Lib.hid hr
  clear hon hcb hr b0 b1 b2 c21
  go_wp2
  go_ret
  exact .inr ⟨HRM.out, rfl, HCB.out.leaves HOR.out⟩
end
end Go.Proofs.YthambopnmhkeeaaGreat.Ca
/- What the helpers of the statements on caches answer: pick, full, at, data, has, the source's Read. -/
namespace Go.Proofs.YthambopnmhkeeaaGreat.Ca
open Go.RowKit
def pickI (c n : Int) : Int := (if c < 0 then -(c + 1) else c) % n
theorem pickI_lt (c n : Int) (hn : 0 < n) : 0 <= pickI c n /\ pickI c n < n := ⟨Int.emod_nonneg _ (by omega), Int.emod_lt_of_pos _ hn⟩
def fl (c : Int) : ByteArray := textOf fun _ => c
def told (i : Int) : ByteArray := if i < 0 \/ 200 <= i then ⟨#[]⟩ else fl i
def SlI (w : World) (v : Value) (O : List Int) : Prop := ∃ ao c, v = .slice ao O.length c /\ (O = [] \/ ∃ b, ao = some ⟨b, 0, none⟩ /\ b < w.heap.size /\ ∀ j (h : j < O.length), w.cell? ⟨b, j, none⟩ = some (.int .i64 O[j]))
theorem SlI.below {w w' : World} {v : Value} {O : List Int} (h : SlI w v O) (hb : Below w.heap.size w w') : SlI w' v O := by
 obtain ⟨ao, c, hv, h⟩ := h
 refine ⟨ao, c, hv, ?_⟩
 rcases h with h | ⟨b, e, hlt, hc⟩
 ·exact .inl h
 ·exact .inr ⟨b, e, Nat.lt_of_lt_of_le hlt hb.size, fun j hj => (hb.cell (p := ⟨b, j, none⟩) hlt).trans (hc j hj)⟩
end Go.Proofs.YthambopnmhkeeaaGreat.Ca
