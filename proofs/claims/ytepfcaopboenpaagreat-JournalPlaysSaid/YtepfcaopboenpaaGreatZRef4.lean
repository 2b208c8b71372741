/- What the document's device's Flush and Crash answer and leave behind: the same as in plain lists. -/
import Derived.Test.YtepfcaopboenpaaGreatZRef3
import Derived.Test.YtepfcaopboenpaaGreatZSettle

namespace Go.Proofs.YtepfcaopboenpaaGreat
open Go.RowKit

section
variable {f : Nat → Nat} {pend : List (Nat × ByteArray)} {disk : List ByteArray} {k : Nat}
theorem laid_all (h : k < pend.length) (hf : f k = 256) (hx : pend[k].2.size = 256) (ho : ((laidTo f pend disk k).getD pend[k].1 ByteArray.empty).size = 256) : laidTo f pend disk (k + 1) = (laidTo f pend disk k).set pend[k].1 pend[k].2 := by
  rw [laidTo_succ f pend disk k h]; unfold layOne; rw [hf, layB_all _ _ hx ho]
theorem laid_zero (h : k < pend.length) (hf : f k = 0) (hb : pend[k].1 < disk.length) : laidTo f pend disk (k + 1) = laidTo f pend disk k := by
  rw [laidTo_succ f pend disk k h]; unfold layOne; rw [hf, layB_none]
  have hl : pend[k].1 < (laidTo f pend disk k).length := by rw [laidTo_length]; exact hb
  rw [getD_lt _ _ hl]
  exact List.set_getElem_self hl
theorem laid_cut (h : k < pend.length) : laidTo f pend disk (k + 1) = (laidTo f pend disk k).set pend[k].1 (layB pend[k].2 ((laidTo f pend disk k).getD pend[k].1 ByteArray.empty) (f k)) := by
  rw [laidTo_succ f pend disk k h]; rfl
end

section
variable {S : Nat → Prop} {w w' : World} {r q lcap : Nat} {pv : Value} {D : DevS}

theorem Ref.lay (d : Ref S w r q lcap pv D) (b : Nat) (s : ByteArray) (hs : s.size = 256) : Ref S (w.setCell ⟨q, b, none⟩ (.string s)) r q lcap pv { D with disk := D.disk.set b s } := by
  refine ⟨⟨by simpa using d.ok.some, by simpa using d.ok.few, ?_, by simpa using d.ok.pends, d.ok.fuse0, d.ok.fuse1⟩, ?_, ?_, ?_, d.qr, d.rp, d.rq, d.sp, d.sq, d.sr, fun k hk => by simpa [World.setCell] using d.lt k hk⟩
  · intro u hu
    rcases List.mem_or_eq_of_mem_set hu with h | h
    · exact d.ok.whole u h
    · rw [h]; exact hs
  · rw [Below.heap_setCell _ _ _ _ (Ne.symm d.qr), List.length_set]; exact d.hp
  · have := (World.ownsRow.stored d.hl b (.string s)).1
    simpa [List.map_set] using this
  · exact ownsRow_setCell_other d.hr (by simpa using d.rq) _
theorem Ref.emptied (d : Ref S w r q lcap pv D) : Ref S (w.setCell ⟨r, 1, none⟩ (.slice none 0 0)) r q lcap (.slice none 0 0) { D with pend := [] } :=
  d.put 1 _ _ _ ⟨d.ok.some, d.ok.few, d.ok.whole, (fun x h => by cases h), d.ok.fuse0, d.ok.fuse1⟩ rfl rfl (World.ownsRow_nil _ _ _ _) (by simp [Value.ownBlock]) (by simp [Value.ownBlock]) (fun k hk => by simp [Value.ownBlock] at hk)

set_option maxRecDepth 100000 in
set_option maxHeartbeats 2000000 in
theorem rflush_goes (hl : D.pend.length ≤ 1000000) (hde : D.dead = false) (htk : D.tk.1 = true) (d : Ref S w r q lcap pv D) :
    Calls Tryz.prog 33 #[.pointer (some ⟨r, 0, none⟩)] w fun e w' => e = .returned (.int .i64 0) ∧ Ref S w' r q lcap (.slice none 0 0) { D.tk.2 with disk := laidTo (fun _ => 256) D.pend D.disk D.pend.length, pend := [] } ∧ Only S w w' := by
  have c3 := d.c3; rw [hde] at c3
  have cT := rturn_any d; rw [htk] at cT
  have e1 : D.tk.2.pend = D.pend := DevS.tk_pend D
  have e2 : D.tk.2.disk = D.disk := DevS.tk_disk D
  rw [← e1] at hl
  rw [← e1, ← e2]
  clear e1 e2 htk hde d
  generalize D.tk.2 = E at *
  have HT := Lib.hid cT
  clear cT
  go_enter Tryz.func33, Tryz.ntmps33
  go_wp2_with fail
  refine HT.out.mono ?_
  rintro e w1 ⟨rfl, hd1, ho1, _⟩
  obtain ⟨ao, cap, hpv⟩ := own_shape hd1.hr
  obtain ⟨n, hn⟩ : ∃ n, E.pend.length = n := ⟨_, rfl⟩
  rw [hn] at hpv hl
  subst hpv
  have HE := Lib.hid hd1; have HO := Lib.hid ho1; have HN := Lib.hid hn
  clear hd1 ho1 HT hn c3
  go_wp2_with fail
  go_loopw [4] (fun i wr => ∃ k : Nat, k ≤ n ∧ i = .int .i64 k ∧ Hid (Ref S wr r q lcap (.slice ao n cap) { E with disk := laidTo (fun _ => 256) E.pend E.disk k } ∧ Only S w wr)) (fun i _ => n - (intOf i).toNat)
  case atStart => exact ⟨0, Nat.zero_le _, rfl, HE.out, HO.out⟩
  case round =>
    obtain ⟨k, hk, rfl, HI⟩ := hrel
    have c1 := HI.out.1.c1
    by_cases hlt : k < n
    · have hkp : k < E.pend.length := by rw [HN.out]; exact hlt
      obtain ⟨b, e⟩ : ∃ b, ao = some ⟨b, 0, none⟩ := by
        rcases HE.out.hr.2 with ⟨h1, h2⟩ | ⟨g, cap', cur, h1, _⟩
        · rw [HN.out] at h2; omega
        · simp at h1; exact ⟨g, h1.1⟩
      subst e
      have c0 := HI.out.1.c0
      simp only [laidTo_length] at c0
      obtain ⟨d0, d1⟩ := HI.out.1.cr k hkp
      have hpd := HE.out.ok.pends E.pend[k] (List.getElem_mem hkp)
      have hbl : E.pend[k].1 < (laidTo (fun _ => 256) E.pend E.disk k).length := by rw [laidTo_length]; exact hpd.1
      have e0 := HI.out.1.cq E.pend[k].1 hbl
      have e0f := HI.out.1.fq E.pend[k].1
      have ho : ((laidTo (fun _ => 256) E.pend E.disk k).getD E.pend[k].1 ByteArray.empty).size = 256 := by
        rw [getD_lt _ _ hbl]; exact HI.out.1.ok.whole _ (List.getElem_mem hbl)
      have HL := Lib.hid (HI.out.1.lay E.pend[k].1 E.pend[k].2 hpd.2)
      have HX : Hid (laidTo (fun _ => 256) E.pend E.disk (k + 1) = (laidTo (fun _ => 256) E.pend E.disk k).set E.pend[k].1 E.pend[k].2) := laid_all hkp rfl hpd.2 ho
      have hbD := hpd.1
      have hrq := HI.out.1.qr
      clear hpd hbl ho
      simp only at HL e0 d0 d1
      generalize (laidTo (fun _ => 256) E.pend E.disk k).getD E.pend[k].1 ByteArray.empty = old at *
      generalize E.pend[k] = x at *
      obtain ⟨xb, xs⟩ := x
      simp only at *
      have hbz : (xb : Int) < (E.disk.length : Int) := by omega
      clear hkp
      generalize E.disk.length = nd at *
      go_wp2
      go_region
      go_wp2
      go_roundw
      case rel => exact ⟨k + 1, by omega, by go_num, (by show Ref _ _ _ _ _ _ _; rw [HX.out]; exact HL.out.kept (T := fun _ => False) ((Only.refl _ _).drew) (fun _ _ h => h)), (HI.out.2.setCell (fun _ => HI.out.1.sq) _).drew⟩
      case measure => simp [intOf]; omega
    · have hkn : k = n := by omega
      subst hkn
      have f1 := HI.out.1.f 1
      have HF : Hid (Ref S (wr.setCell ⟨r, 1, none⟩ (.slice none 0 0)) r q lcap (.slice none 0 0) { E with disk := laidTo (fun _ => 256) E.pend E.disk E.pend.length, pend := [] }) := by
        have := HI.out.1.emptied
        rw [HN.out]
        exact this
      go_wp2
      go_ret
      exact ⟨rfl, HF.out, HI.out.2.setCell (fun _ => HI.out.1.sp) _⟩

set_option maxRecDepth 100000 in
set_option maxHeartbeats 1000000 in
theorem rflush_dead (c3 : w.cell? ⟨r, 3, none⟩ = some (.bool true)) :
    Calls Tryz.prog 33 #[.pointer (some ⟨r, 0, none⟩)] w fun e w' => e = .returned (.int .i64 4) ∧ w = w' := by
  go_enter Tryz.func33, Tryz.ntmps33
  go_wp2
  go_ret
  exact ⟨rfl, rfl⟩

set_option maxRecDepth 100000 in
set_option maxHeartbeats 1000000 in
theorem rflush_dies (hde : D.dead = false) (htk : D.tk.1 = false) (d : Ref S w r q lcap pv D) :
    Calls Tryz.prog 33 #[.pointer (some ⟨r, 0, none⟩)] w fun e w' => e = .returned (.int .i64 4) ∧ Ref S w' r q lcap pv D.tk.2 ∧ Only S w w' := by
  have c3 := d.c3; rw [hde] at c3
  have cT := rturn_any d; rw [htk] at cT
  have HT := Lib.hid cT
  clear cT htk hde d
  go_enter Tryz.func33, Tryz.ntmps33
  go_wp2_with fail
  refine HT.out.mono ?_
  rintro e w1 ⟨rfl, hd1, ho1, _⟩
  have HD1 := Lib.hid hd1; have HO := Lib.hid ho1; clear hd1 ho1
  go_wp2
  go_ret
  exact ⟨rfl, HD1.out, HO.out⟩

theorem rflush_any (hl : D.pend.length ≤ 1000000) (d : RStands S w r D) :
    Calls Tryz.prog 33 #[.pointer (some ⟨r, 0, none⟩)] w fun e w' => e = .returned (.int .i64 D.fl.1) ∧ RStands S w' r D.fl.2 ∧ Only S w w' := by
  obtain ⟨q, lcap, pv, d⟩ := d
  by_cases h1 : D.dead = true
  · have e : D.fl = (4, D) := by simp [DevS.fl, h1]
    rw [e]
    exact (rflush_dead (by rw [d.c3, h1])).mono fun e w' ⟨he, hw⟩ => by subst hw; exact ⟨he, ⟨q, lcap, pv, d⟩, Only.refl _ _⟩
  · by_cases h2 : D.tk.1 = false
    · have e : D.fl = (4, D.tk.2) := by simp [DevS.fl, h1, h2]
      rw [e]
      exact (rflush_dies (by simpa using h1) h2 d).mono fun e w' ⟨he, hd, ho⟩ => ⟨he, ⟨q, lcap, pv, hd⟩, ho⟩
    · have e : D.fl = (0, { D.tk.2 with disk := laidTo (fun _ => 256) D.pend D.disk D.pend.length, pend := [] }) := by simp [DevS.fl, h1, h2]
      rw [e]
      exact (rflush_goes hl (by simpa using h1) (by simpa using h2) d).mono fun e w' ⟨he, hd, ho⟩ => ⟨he, ⟨q, lcap, _, hd⟩, ho⟩
end
end Go.Proofs.YtepfcaopboenpaaGreat
/- What the document's device's Crash leaves behind: the same as in plain lists. -/
namespace Go.Proofs.YtepfcaopboenpaaGreat
open Go.RowKit
section
variable {S : Nat → Prop} {w w' : World} {r q lcap : Nat} {pv : Value} {D : DevS}

set_option maxRecDepth 100000 in
set_option maxHeartbeats 4000000 in
theorem rcrash_ref (kl : List Bool) (torn cut : Int) (c : Nat) (hcut : min (max cut 0) 256 = (c : Int)) (kao : Option Addr) (kcap : Nat) (hl : D.pend.length ≤ 1000000) (_hkl : kl.length ≤ 200) (d : Ref S w r q lcap pv D) (hv : Bools S w (.slice kao kl.length kcap) kl) :
    Calls Tryz.prog 14 #[.pointer (some ⟨r, 0, none⟩), .slice kao kl.length kcap, .int .i64 torn, .int .i64 cut] w fun e w' => e = .returned (.tuple #[]) ∧
      Ref S w' r q lcap (.slice none 0 0) { disk := laidTo (left kl torn c) D.pend D.disk D.pend.length, pend := [], fused := false, fuse := 0, dead := false } ∧ Only S w w' := by
  have hc256 : c ≤ 256 := by omega
  have HCut := Lib.hid hcut
  obtain ⟨ao, cap, hpv⟩ := own_shape d.hr
  obtain ⟨n, hn⟩ : ∃ n, D.pend.length = n := ⟨_, rfl⟩
  rw [hn] at hpv hl
  subst hpv
  have HD := Lib.hid d; have HN := Lib.hid hn; have HV := Lib.hid hv
  have hfew := d.ok.few
  clear d hn hv hcut
  obtain ⟨lk, hlk⟩ : ∃ lk, kl.length = lk := ⟨_, rfl⟩
  have HLK := Lib.hid hlk
  rw [hlk] at _hkl ⊢
  clear hlk
  go_enter Tryz.func14, Tryz.ntmps14
  go_wp2_with fail
  rw [HCut.out]
  go_loopw [9] (fun i wr => ∃ k : Nat, k ≤ n ∧ i = .int .i64 k ∧ Hid (Ref S wr r q lcap (.slice ao n cap) { D with disk := laidTo (left kl torn c) D.pend D.disk k } ∧ Only S w wr)) (fun i _ => n - (intOf i).toNat)
  case atStart => exact ⟨0, Nat.zero_le _, rfl, HD.out, Only.refl _ _⟩
  case round =>
    obtain ⟨k, hk, rfl, HI⟩ := hrel
    have c1 := HI.out.1.c1
    by_cases hlt : k < n
    · have hkp : k < D.pend.length := by rw [HN.out]; exact hlt
      obtain ⟨b, e⟩ : ∃ b, ao = some ⟨b, 0, none⟩ := by
        rcases HD.out.hr.2 with ⟨h1, h2⟩ | ⟨g, cap', cur, h1, _⟩
        · rw [HN.out] at h2; omega
        · simp at h1; exact ⟨g, h1.1⟩
      subst e
      have c0 := HI.out.1.c0
      simp only [laidTo_length] at c0
      obtain ⟨d0, d1⟩ := HI.out.1.cr k hkp
      have hpd := HD.out.ok.pends D.pend[k] (List.getElem_mem hkp)
      have hbl : D.pend[k].1 < (laidTo (left kl torn c) D.pend D.disk k).length := by rw [laidTo_length]; exact hpd.1
      have e0 := HI.out.1.cq D.pend[k].1 hbl
      have e0f := HI.out.1.fq D.pend[k].1
      have ho : ((laidTo (left kl torn c) D.pend D.disk k).getD D.pend[k].1 ByteArray.empty).size = 256 := by
        rw [getD_lt _ _ hbl]; exact HI.out.1.ok.whole _ (List.getElem_mem hbl)
      have HL : Hid (∀ X : ByteArray, X.size = 256 → Ref S (wr.setCell ⟨q, D.pend[k].1, none⟩ (.string X)) r q lcap (.slice (some ⟨b, 0, none⟩) n cap) { D with disk := (laidTo (left kl torn c) D.pend D.disk k).set D.pend[k].1 X }) := fun X hX => HI.out.1.lay D.pend[k].1 X hX
      have HX1 : Hid (left kl torn c k = 256 → laidTo (left kl torn c) D.pend D.disk (k + 1) = (laidTo (left kl torn c) D.pend D.disk k).set D.pend[k].1 D.pend[k].2) := fun h => laid_all hkp h hpd.2 ho
      have HX2 : Hid (left kl torn c k = 0 → laidTo (left kl torn c) D.pend D.disk (k + 1) = laidTo (left kl torn c) D.pend D.disk k) := fun h => laid_zero hkp h hpd.1
      have HX3 : Hid (laidTo (left kl torn c) D.pend D.disk (k + 1) = (laidTo (left kl torn c) D.pend D.disk k).set D.pend[k].1 (layB D.pend[k].2 ((laidTo (left kl torn c) D.pend D.disk k).getD D.pend[k].1 ByteArray.empty) (left kl torn c k))) := laid_cut hkp
      have HSz : Hid ((layB D.pend[k].2 ((laidTo (left kl torn c) D.pend D.disk k).getD D.pend[k].1 ByteArray.empty) c).size = 256) := layB_size _ _ _ hpd.2 ho hc256
      have hx256 := hpd.2
      have hbD := hpd.1
      have hrq := HI.out.1.qr
      have lr := HI.out.1.lt r HI.out.1.sp
      have lq := HI.out.1.lt q HI.out.1.sq
      have lb := HI.out.1.lt b (HI.out.1.sr b rfl)
      have hkeep := HV.out.kept HI.out.2 (fun _ h => h)
      clear hpd hbl
      simp only at e0 d0 d1
      generalize (laidTo (left kl torn c) D.pend D.disk k).getD D.pend[k].1 ByteArray.empty = old at *
      generalize D.pend[k] = x at *
      obtain ⟨xb, xs⟩ := x
      simp only at *
      have hbz : (xb : Int) < (D.disk.length : Int) := by omega
      have hx1 : xs.size ≤ 256 := by omega
      have hx2 : 256 ≤ xs.size := by omega
      have ho1 : old.size ≤ 256 := by omega
      have ho2 : 256 ≤ old.size := by omega
      have hm1 : c ≤ xs.size := by omega
      have hm2 : c ≤ old.size := by omega
      have HXs := Lib.hid hx256
      clear hkp hx256 ho
      generalize D.disk.length = nd at *
      by_cases hw : kl[k]? = some true
      · have hkk : k < kl.length := (List.getElem?_eq_some_iff.1 hw).1
        obtain ⟨g, off, ek, ck⟩ : ∃ g off, kao = some ⟨g, off, none⟩ ∧ wr.cell? ⟨g, off + k, none⟩ = some (.bool true) := by
          obtain ⟨kao', kcap', e1, h | ⟨g, off, e2, _, hc⟩⟩ := hkeep
          · rw [h] at hkk; simp at hkk
          · simp at e1
            have := hc k hkk
            rw [(List.getElem?_eq_some_iff.1 hw).2] at this
            exact ⟨g, off, e1.1.trans e2, this⟩
        subst ek
        have lg : g < wr.heap.size := World.block_lt_of_cell? wr _ ck
        have hlt2 : k < lk := by rw [← HLK.out]; exact hkk
        have HLe : Hid (left kl torn c k = 256) := by show left kl torn c k = 256; unfold left; rw [if_pos hw]
        clear hkk hw hkeep
        go_wp2
        go_region
        go_wp2
        go_roundw
        case rel => exact ⟨k + 1, by omega, by go_num, (by show Ref _ _ _ _ _ _ _; rw [HX1.out HLe.out]; exact (HL.out xs HXs.out).kept (T := fun _ => False) (((Only.refl _ _).alloc _).drew) (fun _ _ h => h)), ((HI.out.2.setCell (fun _ => HI.out.1.sq) _).alloc _).drew⟩
        case measure => simp [intOf]; omega
      · have hnk : lk ≤ k ∨ (k < lk ∧ ∃ g off, kao = some ⟨g, off, none⟩ ∧ g < wr.heap.size ∧ wr.cell? ⟨g, off + k, none⟩ = some (.bool false)) := by
          by_cases hkk : k < kl.length
          · right
            refine ⟨by rw [← HLK.out]; exact hkk, ?_⟩
            obtain ⟨kao', kcap', e1, h | ⟨g, off, e2, _, hc⟩⟩ := hkeep
            · rw [h] at hkk; simp at hkk
            · simp at e1
              have hcc := hc k hkk
              have hf : kl[k] = false := by
                have ee : kl[k]? = some kl[k] := List.getElem?_eq_getElem hkk
                cases hb : kl[k]
                · rfl
                · rw [ee, hb] at hw; exact absurd rfl hw
              rw [hf] at hcc
              exact ⟨g, off, e1.1.trans e2, World.block_lt_of_cell? wr _ hcc, hcc⟩
          · left; rw [← HLK.out]; omega
        by_cases ht : (k : Int) = torn
        · have HLe : Hid (left kl torn c k = c) := by show left kl torn c k = c; unfold left; rw [if_neg hw, if_pos ht]
          have ht' : ((k : Int) == torn) = true := by simpa using ht
          have HX3' : Hid (laidTo (left kl torn c) D.pend D.disk (k + 1) = (laidTo (left kl torn c) D.pend D.disk k).set xb (layB xs old c)) := by show _ = _; rw [HX3.out, HLe.out]
          clear ht hw hkeep HX3 HX1 HX2
          rcases hnk with hge | ⟨hlt2, g, off, rfl, lg, ck⟩
          all_goals
            go_wp2
            go_region
            go_wp2
            go_roundw
            case rel => exact ⟨k + 1, by omega, by go_num, (by show Ref _ _ _ _ _ _ _; rw [HX3'.out]; exact (HL.out _ HSz.out).kept (T := fun _ => False) (((Only.refl _ _).alloc _).drew) (fun _ _ h => h)), ((HI.out.2.setCell (fun _ => HI.out.1.sq) _).alloc _).drew⟩
            case measure => simp [intOf]; omega
        · have HLe : Hid (left kl torn c k = 0) := by show left kl torn c k = 0; unfold left; rw [if_neg hw, if_neg ht]
          have ht' : ((k : Int) == torn) = false := by simpa using ht
          clear ht hw hkeep HX3 HX1 HL HSz
          rcases hnk with hge | ⟨hlt2, g, off, rfl, lg, ck⟩
          all_goals
            go_wp2
            go_roundw
            case rel => exact ⟨k + 1, by omega, by go_num, (by show Ref _ _ _ _ _ _ _; rw [HX2.out HLe.out]; exact HI.out.1.kept (T := fun _ => False) ((Only.refl _ _).alloc _) (fun _ _ h => h)), HI.out.2.alloc _⟩
            case measure => simp [intOf]; omega
    · have hkn : k = n := by omega
      subst hkn
      have f1 := HI.out.1.f 1; have f2 := HI.out.1.f 2; have f3 := HI.out.1.f 3
      have c2 := HI.out.1.c2; have c3 := HI.out.1.c3
      have hE := HI.out.1.emptied
      have h2 := hE.put 2 (.int .i64 (-1)) { disk := laidTo (left kl torn c) D.pend D.disk k, pend := [], fused := false, fuse := 0, dead := D.dead } _ ⟨hE.ok.some, hE.ok.few, hE.ok.whole, (fun x hx => by cases hx), Int.le_refl 0, by simp⟩ rfl rfl hE.hr hE.rp hE.rq hE.sr
      have h3 := h2.put 3 (.bool false) { disk := laidTo (left kl torn c) D.pend D.disk k, pend := [], fused := false, fuse := 0, dead := false } _ ⟨hE.ok.some, hE.ok.few, hE.ok.whole, (fun x hx => by cases hx), Int.le_refl 0, by simp⟩ rfl rfl h2.hr hE.rp hE.rq hE.sr
      have HF := Lib.hid h3
      clear hE h2 h3
      generalize ({ D with disk := laidTo (left kl torn c) D.pend D.disk k } : DevS).rfu = ru at *
      go_wp2
      go_end0
      refine ⟨rfl, ?_, ((HI.out.2.setCell (fun _ => HI.out.1.sp) _).setCell (fun _ => HI.out.1.sp) _).setCell (fun _ => HI.out.1.sp) _⟩
      rw [HN.out]
      exact HF.out

theorem rcrash_any (kl : List Bool) (torn cut : Int) (v : Value) (hl : D.pend.length ≤ 1000000) (hkl : kl.length ≤ 200) (d : RStands S w r D) (hv : Bools S w v kl) :
    Calls Tryz.prog 14 #[.pointer (some ⟨r, 0, none⟩), v, .int .i64 torn, .int .i64 cut] w fun e w' => e = .returned (.tuple #[]) ∧ RStands S w' r (D.crash kl torn cut) ∧ Only S w w' := by
  obtain ⟨q, lcap, pv, d⟩ := d
  have hv' := hv
  obtain ⟨kao, kcap, rfl, _⟩ := hv
  obtain ⟨c, hc⟩ : ∃ c : Nat, min (max cut 0) 256 = (c : Int) := Int.eq_ofNat_of_zero_le (by omega)
  have e : D.crash kl torn cut = { disk := laidTo (left kl torn c) D.pend D.disk D.pend.length, pend := [], fused := false, fuse := 0, dead := false } := by
    unfold DevS.crash; rw [hc]; rfl
  rw [e]
  exact (rcrash_ref kl torn cut c hc kao kcap hl hkl d hv').mono fun e w' ⟨he, h1, h2⟩ => ⟨he, ⟨q, lcap, _, h1⟩, h2⟩
end
end Go.Proofs.YtepfcaopboenpaaGreat
