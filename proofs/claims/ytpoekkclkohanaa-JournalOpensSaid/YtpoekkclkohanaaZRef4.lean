/- What the document's device's Flush and Crash answer and leave behind: the same as in plain lists. -/
import Derived.Test.YtpoekkclkohanaaZRef3
import Derived.Test.YtpoekkclkohanaaZSettle

namespace Go.Proofs.Ytpoekkclkohanaa
open Go.RowKit

section
variable {f : Nat → Nat} {pend : List (Nat × ByteArray)} {disk : List ByteArray} {k : Nat}
theorem laid_all (h : k < pend.length) (hf : f k = 256) (hx : pend[k].2.size = 256) (ho : ((laidTo f pend disk k).getD pend[k].1 ByteArray.empty).size = 256) : laidTo f pend disk (k + 1) = (laidTo f pend disk k).set pend[k].1 pend[k].2 := by
  rw [laidTo_succ f pend disk k h]; unfold layOne; rw [hf, layB_all _ _ hx ho]
theorem laid_zero (h : k < pend.length) (hf : f k = 0) (hb : pend[k].1 < disk.length) : laidTo f pend disk (k + 1) = laidTo f pend disk k := by
  rw [laidTo_succ f pend disk k h]; unfold layOne; rw [hf, layB_none]
  have hl : pend[k].1 < (laidTo f pend disk k).length := by rw [laidTo_length]; exact hb
  rw [getD_lt _ _ hl]
  exact List.set_getElem_self hl
theorem laid_cut (h : k < pend.length) : laidTo f pend disk (k + 1) = (laidTo f pend disk k).set pend[k].1 (layB pend[k].2 ((laidTo f pend disk k).getD pend[k].1 ByteArray.empty) (f k)) := by
  rw [laidTo_succ f pend disk k h]; rfl
end

section
variable {S : Nat → Prop} {w w' : World} {r q lcap : Nat} {pv : Value} {D : DevS}

theorem Ref.lay (d : Ref S w r q lcap pv D) (b : Nat) (s : ByteArray) (hs : s.size = 256) : Ref S (w.setCell ⟨q, b, none⟩ (.string s)) r q lcap pv { D with disk := D.disk.set b s } := by
  refine ⟨⟨by simpa using d.ok.some, by simpa using d.ok.few, ?_, by simpa using d.ok.pends, d.ok.fuse0, d.ok.fuse1⟩, ?_, ?_, ?_, d.qr, d.rp, d.rq, d.sp, d.sq, d.sr, fun k hk => by simpa [World.setCell] using d.lt k hk⟩
  · intro u hu
    rcases List.mem_or_eq_of_mem_set hu with h | h
    · exact d.ok.whole u h
    · rw [h]; exact hs
  · rw [Below.heap_setCell _ _ _ _ (Ne.symm d.qr), List.length_set]; exact d.hp
  · have := (World.ownsRow.stored d.hl b (.string s)).1
    simpa [List.map_set] using this
  · exact ownsRow_setCell_other d.hr (by simpa using d.rq) _
theorem Ref.emptied (d : Ref S w r q lcap pv D) : Ref S (w.setCell ⟨r, 1, none⟩ (.slice none 0 0)) r q lcap (.slice none 0 0) { D with pend := [] } :=
  d.put 1 _ _ _ ⟨d.ok.some, d.ok.few, d.ok.whole, (fun x h => by cases h), d.ok.fuse0, d.ok.fuse1⟩ rfl rfl (World.ownsRow_nil _ _ _ _) (by simp [Value.ownBlock]) (by simp [Value.ownBlock]) (fun k hk => by simp [Value.ownBlock] at hk)

set_option maxRecDepth 100000 in
set_option maxHeartbeats 2000000 in
theorem rflush_goes (hl : D.pend.length ≤ 1000000) (hde : D.dead = false) (htk : D.tk.1 = true) (d : Ref S w r q lcap pv D) :
    Calls Try.prog 44 #[.pointer (some ⟨r, 0, none⟩)] w fun e w' => e = .returned (.int .i64 0) ∧ Ref S w' r q lcap (.slice none 0 0) { D.tk.2 with disk := laidTo (fun _ => 256) D.pend D.disk D.pend.length, pend := [] } ∧ Only S w w' := by
  have c3 := d.c3; rw [hde] at c3
  have cT := rturn_any d; rw [htk] at cT
  have e1 : D.tk.2.pend = D.pend := DevS.tk_pend D
  have e2 : D.tk.2.disk = D.disk := DevS.tk_disk D
  rw [← e1] at hl
  rw [← e1, ← e2]
  clear e1 e2 htk hde d
  generalize D.tk.2 = E at *
  have HT := Lib.hid cT
  clear cT
  go_enter Try.func44, Try.ntmps44
  go_wp2_with fail
  refine HT.out.mono ?_
  rintro e w1 ⟨rfl, hd1, ho1, _⟩
  obtain ⟨ao, cap, hpv⟩ := own_shape hd1.hr
  obtain ⟨n, hn⟩ : ∃ n, E.pend.length = n := ⟨_, rfl⟩
  rw [hn] at hpv hl
  subst hpv
  have HE := Lib.hid hd1; have HO := Lib.hid ho1; have HN := Lib.hid hn
  clear hd1 ho1 HT hn c3
  go_wp2_with fail
  go_loopw [4] (fun i wr => ∃ k : Nat, k ≤ n ∧ i = .int .i64 k ∧ Hid (Ref S wr r q lcap (.slice ao n cap) { E with disk := laidTo (fun _ => 256) E.pend E.disk k } ∧ Only S w wr)) (fun i _ => n - (intOf i).toNat)
  case atStart => exact ⟨0, Nat.zero_le _, rfl, HE.out, HO.out⟩
  case round =>
    obtain ⟨k, hk, rfl, HI⟩ := hrel
    have c1 := HI.out.1.c1
    by_cases hlt : k < n
    · have hkp : k < E.pend.length := by rw [HN.out]; exact hlt
      obtain ⟨b, e⟩ : ∃ b, ao = some ⟨b, 0, none⟩ := by
        rcases HE.out.hr.2 with ⟨h1, h2⟩ | ⟨g, cap', cur, h1, _⟩
        · rw [HN.out] at h2; omega
        · simp at h1; exact ⟨g, h1.1⟩
      subst e
      have c0 := HI.out.1.c0
      simp only [laidTo_length] at c0
      obtain ⟨d0, d1⟩ := HI.out.1.cr k hkp
      have hpd := HE.out.ok.pends E.pend[k] (List.getElem_mem hkp)
      have hbl : E.pend[k].1 < (laidTo (fun _ => 256) E.pend E.disk k).length := by rw [laidTo_length]; exact hpd.1
      have e0 := HI.out.1.cq E.pend[k].1 hbl
      have e0f := HI.out.1.fq E.pend[k].1
      have ho : ((laidTo (fun _ => 256) E.pend E.disk k).getD E.pend[k].1 ByteArray.empty).size = 256 := by
        rw [getD_lt _ _ hbl]; exact HI.out.1.ok.whole _ (List.getElem_mem hbl)
      have HL := Lib.hid (HI.out.1.lay E.pend[k].1 E.pend[k].2 hpd.2)
      have HX : Hid (laidTo (fun _ => 256) E.pend E.disk (k + 1) = (laidTo (fun _ => 256) E.pend E.disk k).set E.pend[k].1 E.pend[k].2) := laid_all hkp rfl hpd.2 ho
      have hbD := hpd.1
      have hrq := HI.out.1.qr
      clear hpd hbl ho
      simp only at HL e0 d0 d1
      generalize (laidTo (fun _ => 256) E.pend E.disk k).getD E.pend[k].1 ByteArray.empty = old at *
      generalize E.pend[k] = x at *
      obtain ⟨xb, xs⟩ := x
      simp only at *
      have hbz : (xb : Int) < (E.disk.length : Int) := by omega
      clear hkp
      generalize E.disk.length = nd at *
      go_wp2
      go_region
      go_wp2
      go_roundw
      case rel => exact ⟨k + 1, by omega, by go_num, (by show Ref _ _ _ _ _ _ _; rw [HX.out]; exact HL.out.kept (T := fun _ => False) ((Only.refl _ _).drew) (fun _ _ h => h)), (HI.out.2.setCell (fun _ => HI.out.1.sq) _).drew⟩
      case measure => simp [intOf]; omega
    · have hkn : k = n := by omega
      subst hkn
      have f1 := HI.out.1.f 1
      have HF : Hid (Ref S (wr.setCell ⟨r, 1, none⟩ (.slice none 0 0)) r q lcap (.slice none 0 0) { E with disk := laidTo (fun _ => 256) E.pend E.disk E.pend.length, pend := [] }) := by
        have := HI.out.1.emptied
        rw [HN.out]
        exact this
      go_wp2
      go_ret
      exact ⟨rfl, HF.out, HI.out.2.setCell (fun _ => HI.out.1.sp) _⟩

set_option maxRecDepth 100000 in
set_option maxHeartbeats 1000000 in
theorem rflush_dead (c3 : w.cell? ⟨r, 3, none⟩ = some (.bool true)) :
    Calls Try.prog 44 #[.pointer (some ⟨r, 0, none⟩)] w fun e w' => e = .returned (.int .i64 4) ∧ w = w' := by
  go_enter Try.func44, Try.ntmps44
  go_wp2
  go_ret
  exact ⟨rfl, rfl⟩

set_option maxRecDepth 100000 in
set_option maxHeartbeats 1000000 in
theorem rflush_dies (hde : D.dead = false) (htk : D.tk.1 = false) (d : Ref S w r q lcap pv D) :
    Calls Try.prog 44 #[.pointer (some ⟨r, 0, none⟩)] w fun e w' => e = .returned (.int .i64 4) ∧ Ref S w' r q lcap pv D.tk.2 ∧ Only S w w' := by
  have c3 := d.c3; rw [hde] at c3
  have cT := rturn_any d; rw [htk] at cT
  have HT := Lib.hid cT
  clear cT htk hde d
  go_enter Try.func44, Try.ntmps44
  go_wp2_with fail
  refine HT.out.mono ?_
  rintro e w1 ⟨rfl, hd1, ho1, _⟩
  have HD1 := Lib.hid hd1; have HO := Lib.hid ho1; clear hd1 ho1
  go_wp2
  go_ret
  exact ⟨rfl, HD1.out, HO.out⟩

theorem rflush_any (hl : D.pend.length ≤ 1000000) (d : RStands S w r D) :
    Calls Try.prog 44 #[.pointer (some ⟨r, 0, none⟩)] w fun e w' => e = .returned (.int .i64 D.fl.1) ∧ RStands S w' r D.fl.2 ∧ Only S w w' := by
  obtain ⟨q, lcap, pv, d⟩ := d
  by_cases h1 : D.dead = true
  · have e : D.fl = (4, D) := by simp [DevS.fl, h1]
    rw [e]
    exact (rflush_dead (by rw [d.c3, h1])).mono fun e w' ⟨he, hw⟩ => by subst hw; exact ⟨he, ⟨q, lcap, pv, d⟩, Only.refl _ _⟩
  · by_cases h2 : D.tk.1 = false
    · have e : D.fl = (4, D.tk.2) := by simp [DevS.fl, h1, h2]
      rw [e]
      exact (rflush_dies (by simpa using h1) h2 d).mono fun e w' ⟨he, hd, ho⟩ => ⟨he, ⟨q, lcap, pv, hd⟩, ho⟩
    · have e : D.fl = (0, { D.tk.2 with disk := laidTo (fun _ => 256) D.pend D.disk D.pend.length, pend := [] }) := by simp [DevS.fl, h1, h2]
      rw [e]
      exact (rflush_goes hl (by simpa using h1) (by simpa using h2) d).mono fun e w' ⟨he, hd, ho⟩ => ⟨he, ⟨q, lcap, _, hd⟩, ho⟩
end
end Go.Proofs.Ytpoekkclkohanaa
