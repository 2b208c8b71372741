/- What settle leaves behind for every device and every function value that answers numbers up to 256: the pending writes laid on the blocks in order, then none pending. -/
import Derived.Test.YtodfcbpimglhdaaZTextB
import Derived.BigRegion
import Derived.Deep.LoopGhost
import Derived.Shelf.Abstract
import Derived.WalkKit
import Derived.Test.YtodfcbpimglhdaaRows
import Derived.WalkSpells
import Derived.WalkLawsBesides
import Derived.Lib.Hide
import Derived.Laws.BitsAllLaws

namespace Go.Proofs.Ytodfcbpimglhdaa
open Go.RowKit

/-- The first m bytes of x laid over old. -/
def layB (x old : ByteArray) (m : Nat) : ByteArray := x.extract 0 m ++ old.extract m old.size
def layOne (d : List ByteArray) (x : Nat × ByteArray) (m : Nat) : List ByteArray := d.set x.1 (layB x.2 (d.getD x.1 ByteArray.empty) m)
/-- The blocks behind the first k of the pending writes: of the j-th f j bytes are laid. -/
def laidTo (f : Nat → Nat) (pend : List (Nat × ByteArray)) (disk : List ByteArray) : Nat → List ByteArray
  | 0 => disk
  | k + 1 => match pend[k]? with
    | some x => layOne (laidTo f pend disk k) x (f k)
    | none => laidTo f pend disk k

theorem getD_lt (l : List ByteArray) (i : Nat) (h : i < l.length) : l.getD i ByteArray.empty = l[i] := by simp [List.getD, h]
theorem layB_size (x old : ByteArray) (m : Nat) (hx : x.size = 256) (ho : old.size = 256) (hm : m ≤ 256) : (layB x old m).size = 256 := by
  simp [layB, hx, ho]; omega
theorem layOne_length (d : List ByteArray) (x : Nat × ByteArray) (m : Nat) : (layOne d x m).length = d.length := by simp [layOne]
theorem laidTo_length (f : Nat → Nat) (pend : List (Nat × ByteArray)) (disk : List ByteArray) (k : Nat) : (laidTo f pend disk k).length = disk.length := by
  induction k with
  | zero => rfl
  | succ k ih =>
    unfold laidTo; split
    · rw [layOne_length, ih]
    · exact ih
theorem laidTo_succ (f : Nat → Nat) (pend : List (Nat × ByteArray)) (disk : List ByteArray) (k : Nat) (h : k < pend.length) : laidTo f pend disk (k + 1) = layOne (laidTo f pend disk k) pend[k] (f k) := by
  rw [laidTo]; simp [List.getElem?_eq_getElem h]

theorem DevS.Ok.laid {D : DevS} (ok : D.Ok) (f : Nat → Nat) (hf : ∀ k, k < D.pend.length → f k ≤ 256) (k : Nat) : ({ D with disk := laidTo f D.pend D.disk k } : DevS).Ok := by
  refine ⟨by simp [laidTo_length]; exact ok.some, by simp [laidTo_length]; exact ok.few, ?_, by simp only [laidTo_length]; exact ok.pends, ok.fuse0, ok.fuse1⟩
  induction k with
  | zero => exact ok.whole
  | succ k ih =>
    intro s hs
    by_cases hk : k < D.pend.length
    · have hp := ok.pends D.pend[k] (List.getElem_mem hk)
      simp only at hs ih
      rw [laidTo_succ f D.pend D.disk k hk] at hs
      unfold layOne at hs
      rcases List.mem_or_eq_of_mem_set hs with h | h
      · exact ih s h
      · subst h
        refine layB_size _ _ _ hp.2 ?_ (hf k hk)
        have hl : D.pend[k].1 < (laidTo f D.pend D.disk k).length := by rw [laidTo_length]; exact hp.1
        rw [getD_lt _ _ hl]
        exact ih _ (List.getElem_mem hl)
    · have e : laidTo f D.pend D.disk (k + 1) = laidTo f D.pend D.disk k := by rw [laidTo]; simp [List.getElem?_eq_none (Nat.le_of_not_lt hk)]
      simp only [e] at hs
      exact ih s hs

section
variable {S : Nat → Prop} {w : World} {p q : Nat} {pv : Value} {D : DevS}

/-- One block is written anew. -/
theorem Dev.lay (d : Dev S w p q pv D) (b : Nat) (s : ByteArray) (hs : s.size = 256) : Dev S (w.setCell ⟨q, b, none⟩ (.string s)) p q pv { D with disk := D.disk.set b s } := by
  refine ⟨⟨by simpa using d.ok.some, by simpa using d.ok.few, ?_, by simpa using d.ok.pends, d.ok.fuse0, d.ok.fuse1⟩, ?_, ?_, ?_, d.pq, d.rp, d.rq, d.sp, d.sq, d.sr, fun k hk => by simpa [World.setCell] using d.lt k hk⟩
  · intro u hu
    rcases List.mem_or_eq_of_mem_set hu with h | h
    · exact d.ok.whole u h
    · rw [h]; exact hs
  · rw [Below.heap_setCell _ _ _ _ d.pq, List.length_set]; exact d.hp
  · rw [heap_setCell_at d.hq]; simp [List.map_set]
  · exact ownsRow_setCell_other d.hr (by simpa using d.rq) _

theorem Dev.cq (d : Dev S w p q pv D) (b : Nat) (hb : b < D.disk.length) : w.cell? ⟨q, b, none⟩ = some (.string (D.disk.getD b ByteArray.empty)) := by
  rw [cell_at d.hq]; simp [hb]
theorem Dev.cr {r n cap : Nat} (d : Dev S w p q (.slice (some ⟨r, 0, none⟩) n cap) D) (k : Nat) (hk : k < D.pend.length) :
    w.cell? ⟨r, k * 2, none⟩ = some (.int .i64 (D.pend[k]).1) ∧ w.cell? ⟨r, k * 2 + 1, none⟩ = some (.string (D.pend[k]).2) := by
  have h := d.hr.cells (g := r) rfl
  have hadd : ∀ j, (⟨r, 0, none⟩ : Addr).add j = ⟨r, j, none⟩ := fun j => by unfold Addr.add; split <;> simp_all
  have h0 := h (k * 2) _ (flatW_fst D.pend k hk)
  have h1 := h (k * 2 + 1) _ (flatW_snd D.pend k hk)
  rw [hadd] at h0 h1
  exact ⟨h0, h1⟩

/-- Nothing is pending any more. -/
theorem Dev.emptied (d : Dev S w p q pv D) : Dev S (w.setCell ⟨p, 1, none⟩ (.slice none 0 0)) p q (.slice none 0 0) { D with pend := [] } :=
  d.put 1 _ _ _ ⟨d.ok.some, d.ok.few, d.ok.whole, (fun x h => by cases h), d.ok.fuse0, d.ok.fuse1⟩ rfl rfl (World.ownsRow_nil _ _ _ _) (by simp [Value.ownBlock]) (by simp [Value.ownBlock]) (fun k hk => by simp [Value.ownBlock] at hk)

set_option maxRecDepth 100000 in
set_option maxHeartbeats 1000000 in
theorem settle_none (fv : Value) (d : Dev S w p q (.slice none 0 0) D) :
    Calls Try.prog 65 #[.pointer (some ⟨p, 0, none⟩), fv] w fun e w' => e = .returned (.tuple #[]) ∧ Dev S w' p q (.slice none 0 0) { D with pend := [] } ∧ Only S w w' := by
  have c1 := d.c1; have f1 := d.f 1
  have HD := Lib.hid d; clear d
  go_enter Try.func65, Try.ntmps65
  go_wp2_with fail
  go_loopw [12] (fun i wr => i = .int .i64 0 ∧ wr = w) (fun _ _ => 0)
  case atStart => exact ⟨rfl, rfl⟩
  case round =>
    obtain ⟨rfl, rfl⟩ := hrel
    go_wp2
    go_end0
    exact ⟨rfl, HD.out.emptied, (Only.refl _ _).setCell (fun _ => HD.out.sp) _⟩

set_option maxRecDepth 100000 in
set_option maxHeartbeats 1000000 in
theorem settle_some (g : FuncId) (cb : Array Value) (f : Nat → Nat) (n cap r : Nat) (hn : D.pend.length = n) (hb : n ≤ 1000000) (hf : ∀ k, k < n → f k ≤ 256) (d : Dev S w p q (.slice (some ⟨r, 0, none⟩) n cap) D)
    (eg : ∀ args w, (callFunc g args).run Try.prog w = .ok (.enter g args) w)
    (hcall : ∀ (k : Nat) (W : World), k < n → Only S w W → Calls Try.prog g (#[.int .i64 k] ++ cb) W fun e w' => e = .returned (.int .i64 (f k)) ∧ W = w') :
    Calls Try.prog 65 #[.pointer (some ⟨p, 0, none⟩), .func (.func g) #[] cb] w fun e w' => e = .returned (.tuple #[]) ∧ Dev S w' p q (.slice none 0 0) { D with disk := laidTo f D.pend D.disk n, pend := [] } ∧ Only S w w' := by
  have HC := Lib.hid hcall; clear hcall
  have HF := Lib.hid hf; clear hf
  have HN := Lib.hid hn; clear hn
  have c1 := d.c1
  have HD := Lib.hid d; clear d
  go_enter Try.func65, Try.ntmps65
  go_wp2_with fail
  go_loopw [12] (fun i wr => ∃ k : Nat, k ≤ n ∧ i = .int .i64 k ∧ Hid (Dev S wr p q (.slice (some ⟨r, 0, none⟩) n cap) { D with disk := laidTo f D.pend D.disk k } ∧ Only S w wr)) (fun i _ => n - (intOf i).toNat)
  case atStart => exact ⟨0, Nat.zero_le _, rfl, HD.out, Only.refl _ _⟩
  case round =>
    clear c1
    obtain ⟨k, hk, rfl, HI⟩ := hrel
    have c1 := HI.out.1.c1
    by_cases hlt : k < n
    · have hkp : k < D.pend.length := by rw [HN.out]; exact hlt
      have c0 := HI.out.1.c0
      simp only [laidTo_length] at c0
      obtain ⟨d0, d1⟩ := HI.out.1.cr k hkp
      simp only at d0 d1
      have hpd := HD.out.ok.pends D.pend[k] (List.getElem_mem hkp)
      have hbl : D.pend[k].1 < (laidTo f D.pend D.disk k).length := by rw [laidTo_length]; exact hpd.1
      have e0 := HI.out.1.cq D.pend[k].1 hbl
      have e0f : wr.frozen? ⟨q, D.pend[k].1, none⟩ = false := free_at HI.out.1.hq _
      have ho : ((laidTo f D.pend D.disk k).getD D.pend[k].1 ByteArray.empty).size = 256 := by
        rw [getD_lt _ _ hbl]; exact HI.out.1.ok.whole _ (List.getElem_mem hbl)
      have hm : f k ≤ 256 := HF.out k hlt
      have hcall := HC.out k (wr.alloc (.cells #[.int .i64 D.pend[k].1, .string D.pend[k].2] 71)) hlt (HI.out.2.alloc _)
      have lp := HI.out.1.lt p HI.out.1.sp
      have lq := HI.out.1.lt q HI.out.1.sq
      have hpq := HI.out.1.pq
      have HX : Hid (∀ W, Dev S W p q (.slice (some ⟨r, 0, none⟩) n cap) { D with disk := (laidTo f D.pend D.disk k).set D.pend[k].1 (layB D.pend[k].2 ((laidTo f D.pend D.disk k).getD D.pend[k].1 ByteArray.empty) (f k)) } → Dev S W p q (.slice (some ⟨r, 0, none⟩) n cap) { D with disk := laidTo f D.pend D.disk (k + 1) }) := by
        intro W h; rw [laidTo_succ f D.pend D.disk k hkp]; exact h
      have HS : Hid ((layB D.pend[k].2 ((laidTo f D.pend D.disk k).getD D.pend[k].1 ByteArray.empty) (f k)).size = 256) := layB_size _ _ _ hpd.2 ho hm
      have HL := Lib.hid (HI.out.1.lay D.pend[k].1 _ HS.out)
      have hd256 := hpd.2
      have hbD := hpd.1
      clear hpd hbl
      simp only at HL e0
      generalize (laidTo f D.pend D.disk k).getD D.pend[k].1 ByteArray.empty = old at *
      generalize D.pend[k] = x at *
      clear hkp
      obtain ⟨b, data⟩ := x
      simp only at *
      generalize f k = m at *
      have hs1 : data.size ≤ 256 := by omega
      have hs2 : 256 ≤ data.size := by omega
      have hs3 : old.size ≤ 256 := by omega
      have hs4 : 256 ≤ old.size := by omega
      clear hd256 ho
      have hm1 : m ≤ data.size := by omega
      have hm2 : m ≤ old.size := by omega
      have HC2 := Lib.hid hcall; clear hcall
      go_wp2_with fail
      refine HC2.out.mono ?_
      rintro e w1 ⟨rfl, rfl⟩
      go_wp2
      go_region
      go_wp2
      go_roundw
      case rel =>
        have hkeep : Only (fun _ => False) (wr.setCell ⟨q, b, none⟩ (.string (layB data old m))) (((wr.setCell ⟨q, b, none⟩ (.string (layB data old m))).alloc (.cells #[.int .i64 b, .string data] 71)).drew) := ((Only.refl _ _).alloc _).drew
        exact ⟨k + 1, by omega, by go_num, HX.out _ (HL.out.kept hkeep (fun _ _ h => h)), ((HI.out.2.setCell (fun _ => HI.out.1.sq) _).alloc _).drew⟩
      case measure => simp [intOf]; omega
    · have : k = n := by omega
      subst this
      have f1 := HI.out.1.f 1
      go_wp2
      go_end0
      exact ⟨rfl, HI.out.1.emptied, HI.out.2.setCell (fun _ => HI.out.1.sp) _⟩

end
end Go.Proofs.Ytodfcbpimglhdaa
/- What Flush and Crash answer and leave behind, for every device. -/
namespace Go.Proofs.Ytodfcbpimglhdaa
open Go.RowKit
section
variable {S : Nat → Prop} {w : World} {p q : Nat} {pv : Value} {D : DevS}

theorem DevS.Ok.settled (ok : D.Ok) (f : Nat → Nat) (hf : ∀ k, k < D.pend.length → f k ≤ 256) : ({ D with disk := laidTo f D.pend D.disk D.pend.length, pend := [] } : DevS).Ok := by
  have h := ok.laid f hf D.pend.length
  exact ⟨h.some, h.few, h.whole, (fun x hx => by cases hx), h.fuse0, h.fuse1⟩

theorem settle_any (g : FuncId) (cb : Array Value) (f : Nat → Nat) (hb : D.pend.length ≤ 1000000) (hf : ∀ k, k < D.pend.length → f k ≤ 256) (d : Dev S w p q pv D)
    (eg : ∀ args w, (callFunc g args).run Try.prog w = .ok (.enter g args) w)
    (hcall : ∀ (k : Nat) (W : World), k < D.pend.length → Only S w W → Calls Try.prog g (#[.int .i64 k] ++ cb) W fun e w' => e = .returned (.int .i64 (f k)) ∧ W = w') :
    Calls Try.prog 65 #[.pointer (some ⟨p, 0, none⟩), .func (.func g) #[] cb] w fun e w' => e = .returned (.tuple #[]) ∧ Dev S w' p q (.slice none 0 0) { D with disk := laidTo f D.pend D.disk D.pend.length, pend := [] } ∧ Only S w w' := by
  rcases d.hr.2 with ⟨rfl, h0⟩ | ⟨r, cap, cur, rfl, _⟩
  · have e : laidTo f D.pend D.disk D.pend.length = D.disk := by rw [h0]; rfl
    rw [e]
    exact settle_none _ d
  · exact settle_some g cb f _ cap r rfl hb hf d eg hcall

set_option maxRecDepth 100000 in
set_option maxHeartbeats 400000 in
theorem flush1_any (k : Int) (W : World) : Calls Try.prog 68 #[.int .i64 k] W fun e w' => e = .returned (.int .i64 256) ∧ W = w' := by
  go_enter Try.func68, Try.ntmps68
  go_wp2
  go_ret
  exact ⟨rfl, rfl⟩

theorem enters_flush1 : ∀ args w, (callFunc 68 args).run Try.prog w = .ok (.enter 68 args) w := enters_of Try.func68 (by kernel_rfl) rfl
theorem enters_crash1 : ∀ args w, (callFunc 66 args).run Try.prog w = .ok (.enter 66 args) w := enters_of Try.func66 (by kernel_rfl) rfl

/-- A flush: its error, and the device behind it. -/
def DevS.fl (D : DevS) : Int × DevS :=
  if D.dead then (4, D) else if D.tk.1 = false then (4, D.tk.2) else (0, { D.tk.2 with disk := laidTo (fun _ => 256) D.pend D.disk D.pend.length, pend := [] })

set_option maxRecDepth 100000 in
set_option maxHeartbeats 400000 in
theorem flush_dead (h : w.cell? ⟨p, 4, none⟩ = some (.bool true)) :
    Calls Try.prog 40 #[.pointer (some ⟨p, 0, none⟩)] w fun e w' => e = .returned (.int .i64 4) ∧ w = w' := by
  go_enter Try.func40, Try.ntmps40
  go_wp2
  go_ret
  exact ⟨rfl, rfl⟩

set_option maxRecDepth 100000 in
set_option maxHeartbeats 400000 in
theorem flush_dies (hde : D.dead = false) (htk : D.tk.1 = false) (d : Dev S w p q pv D) :
    Calls Try.prog 40 #[.pointer (some ⟨p, 0, none⟩)] w fun e w' => e = .returned (.int .i64 4) ∧ Dev S w' p q pv D.tk.2 ∧ Only S w w' := by
  have cT := turn_any d; rw [htk] at cT
  have c4 := d.c4; rw [hde] at c4
  have HT := Lib.hid cT; clear cT
  clear htk d hde
  go_enter Try.func40, Try.ntmps40
  go_wp2_with fail
  refine HT.out.mono ?_
  rintro e w1 ⟨rfl, hd1, ho1, hz1⟩
  have HD1 := Lib.hid hd1; clear hd1 hz1
  have HO := Lib.hid ho1; clear ho1
  go_wp2
  go_ret
  exact ⟨rfl, HD1.out, HO.out⟩

set_option maxRecDepth 100000 in
set_option maxHeartbeats 400000 in
theorem flush_goes (hl : D.pend.length ≤ 1000000) (hde : D.dead = false) (htk : D.tk.1 = true) (d : Dev S w p q pv D) :
    Calls Try.prog 40 #[.pointer (some ⟨p, 0, none⟩)] w fun e w' => e = .returned (.int .i64 0) ∧ Dev S w' p q (.slice none 0 0) { D.tk.2 with disk := laidTo (fun _ => 256) D.pend D.disk D.pend.length, pend := [] } ∧ Only S w w' := by
  have cT := turn_any d; rw [htk] at cT
  have c4 := d.c4; rw [hde] at c4
  have HT := Lib.hid cT; clear cT
  clear htk d hde
  go_enter Try.func40, Try.ntmps40
  go_wp2_with fail
  refine HT.out.mono ?_
  rintro e w1 ⟨rfl, hd1, ho1, hz1⟩
  have cS := settle_any 68 #[] (fun _ => 256) (by rw [DevS.tk_pend]; exact hl) (fun _ _ => Nat.le_refl _) hd1 enters_flush1 (fun k W _ _ => flush1_any k W)
  rw [DevS.tk_pend, DevS.tk_disk] at cS
  have HS := Lib.hid cS; clear cS hd1 hz1
  have HO := Lib.hid ho1; clear ho1
  go_wp2_with fail
  refine HS.out.mono ?_
  rintro e w2 ⟨rfl, hd2, ho2⟩
  have HD2 := Lib.hid hd2; clear hd2
  have HO2 := Lib.hid ho2; clear ho2
  go_wp2
  go_ret
  exact ⟨rfl, HD2.out, HO.out.trans HO2.out (fun _ _ h => h)⟩

theorem flush_any (hl : D.pend.length ≤ 1000000) (d : Stands S w p D) :
    Calls Try.prog 40 #[.pointer (some ⟨p, 0, none⟩)] w fun e w' => e = .returned (.int .i64 D.fl.1) ∧ Stands S w' p D.fl.2 ∧ Only S w w' := by
  obtain ⟨q, pv, d⟩ := d
  by_cases h1 : D.dead = true
  · have e : D.fl = (4, D) := by simp [DevS.fl, h1]
    rw [e]
    exact (flush_dead (by rw [d.c4, h1])).mono fun e w' ⟨he, hw⟩ => by subst hw; exact ⟨he, ⟨q, pv, d⟩, Only.refl _ _⟩
  · by_cases h2 : D.tk.1 = false
    · have e : D.fl = (4, D.tk.2) := by simp [DevS.fl, h1, h2]
      rw [e]
      exact (flush_dies (by simpa using h1) h2 d).mono fun e w' ⟨he, hd, ho⟩ => ⟨he, ⟨q, pv, hd⟩, ho⟩
    · have e : D.fl = (0, { D.tk.2 with disk := laidTo (fun _ => 256) D.pend D.disk D.pend.length, pend := [] }) := by simp [DevS.fl, h1, h2]
      rw [e]
      exact (flush_goes hl (by simpa using h1) (by simpa using h2) d).mono fun e w' ⟨he, hd, ho⟩ => ⟨he, ⟨q, _, hd⟩, ho⟩

/-- A slice value that says kl, outside of the blocks of S. -/
def Bools (S : Nat → Prop) (W : World) (v : Value) (kl : List Bool) : Prop :=
  ∃ ao cap, v = .slice ao kl.length cap ∧ (kl = [] ∨ ∃ g off, ao = some ⟨g, off, none⟩ ∧ ¬ S g ∧ ∀ i (h : i < kl.length), W.cell? ⟨g, off + i, none⟩ = some (.bool kl[i]))
theorem Bools.kept {T : Nat → Prop} {W W' : World} {v : Value} {kl : List Bool} (h : Bools S W v kl) (ho : Only T W W') (hT : ∀ k, T k → S k) : Bools S W' v kl := by
  obtain ⟨ao, cap, hv, h⟩ := h
  refine ⟨ao, cap, hv, ?_⟩
  rcases h with h | ⟨g, off, ha, hs, hc⟩
  · exact .inl h
  · refine .inr ⟨g, off, ha, hs, fun i hi => ?_⟩
    have := hc i hi
    rw [ho.cell (p := ⟨g, off + i, none⟩) (World.block_lt_of_cell? W _ this) (fun t => hs (hT _ t))]
    exact this

/-- How many bytes of the k-th pending write a crash leaves. -/
def left (kl : List Bool) (torn : Int) (cut : Nat) (k : Nat) : Nat := if kl[k]? = some true then 256 else if (k : Int) = torn then cut else 0
theorem left_le (kl : List Bool) (torn : Int) (cut k : Nat) (h : cut ≤ 256) : left kl torn cut k ≤ 256 := by
  unfold left; split
  · omega
  · split <;> omega

set_option maxRecDepth 100000 in
set_option maxHeartbeats 1000000 in
theorem crash1_any (kl : List Bool) (torn : Int) (cut k a b c : Nat) (v : Value) (W : World) (hv : Bools S W v kl) (hl : kl.length ≤ 9223372036854775807)
    (ca : W.cell? ⟨a, 0, none⟩ = some v) (cb : W.cell? ⟨b, 0, none⟩ = some (.int .i64 torn)) (cc : W.cell? ⟨c, 0, none⟩ = some (.int .i64 cut)) :
    Calls Try.prog 66 #[.int .i64 k, .pointer (some ⟨a, 0, none⟩), .pointer (some ⟨b, 0, none⟩), .pointer (some ⟨c, 0, none⟩)] W fun e w' => e = .returned (.int .i64 (left kl torn cut k)) ∧ W = w' := by
  obtain ⟨ao, cap, rfl, hcells⟩ := hv
  by_cases hlt : k < kl.length
  · rcases hcells with h | ⟨g, off, rfl, _, hc⟩
    · subst h; simp at hlt
    · have hck := hc k hlt
      clear hc
      have e : kl[k]? = some kl[k] := List.getElem?_eq_getElem hlt
      have HE := Lib.hid e; clear e
      generalize kl[k] = kk at *
      generalize kl.length = n at *
      cases kk
      · by_cases ht : (k : Int) = torn
        · have ht' : ((k : Int) == torn) = true := by simpa using ht
          have HF : Hid (left kl torn cut k = cut) := by show left kl torn cut k = cut; unfold left; rw [HE.out]; simp [ht]
          have HT := Lib.hid ht; clear ht
          rw [HF.out]
          go_enter Try.func66, Try.ntmps66
          go_wp2
          go_ret
          exact ⟨rfl, rfl⟩
        · have ht' : ((k : Int) == torn) = false := by simpa using ht
          have HF : Hid (left kl torn cut k = 0) := by show left kl torn cut k = 0; unfold left; rw [HE.out]; simp [ht]
          clear ht
          rw [HF.out]
          go_enter Try.func66, Try.ntmps66
          go_wp2
          go_ret
          exact ⟨rfl, rfl⟩
      · have HF : Hid (left kl torn cut k = 256) := by show left kl torn cut k = 256; unfold left; rw [HE.out]; simp
        rw [HF.out]
        go_enter Try.func66, Try.ntmps66
        go_wp2
        go_ret
        exact ⟨rfl, rfl⟩
  · have e : kl[k]? = none := List.getElem?_eq_none (by omega)
    have HE := Lib.hid e; clear e hcells
    generalize kl.length = n at *
    have hge : n ≤ k := by omega
    clear hlt
    by_cases ht : (k : Int) = torn
    · have ht' : ((k : Int) == torn) = true := by simpa using ht
      have HF : Hid (left kl torn cut k = cut) := by show left kl torn cut k = cut; unfold left; rw [HE.out]; simp [ht]
      clear ht
      rw [HF.out]
      go_enter Try.func66, Try.ntmps66
      go_wp2
      go_ret
      exact ⟨rfl, rfl⟩
    · have ht' : ((k : Int) == torn) = false := by simpa using ht
      have HF : Hid (left kl torn cut k = 0) := by show left kl torn cut k = 0; unfold left; rw [HE.out]; simp [ht]
      clear ht
      rw [HF.out]
      go_enter Try.func66, Try.ntmps66
      go_wp2
      go_ret
      exact ⟨rfl, rfl⟩

/-- A crash. -/
def DevS.crash (D : DevS) (kl : List Bool) (torn cut : Int) : DevS :=
  { disk := laidTo (left kl torn (min (max cut 0) 256).toNat) D.pend D.disk D.pend.length, pend := [], fused := false, fuse := 0, dead := false }

theorem DevS.Ok.crash (ok : D.Ok) (kl : List Bool) (torn cut : Int) : (D.crash kl torn cut).Ok := by
  have h := ok.settled (left kl torn (min (max cut 0) 256).toNat) (fun k _ => left_le _ _ _ _ (by omega))
  exact ⟨h.some, h.few, h.whole, (fun x hx => by cases hx), by simp [DevS.crash], by simp [DevS.crash]⟩

theorem three_new (w : World) (o1 o2 o3 : Obj) : (((w.alloc o1).alloc o2).alloc o3).heap[w.heap.size]? = some o1 ∧ (((w.alloc o1).alloc o2).alloc o3).heap[w.heap.size + 1]? = some o2 ∧ (((w.alloc o1).alloc o2).alloc o3).heap[w.heap.size + 1 + 1]? = some o3 := by
  have z1 : (w.alloc o1).heap.size = w.heap.size + 1 := by simp
  have z2 : ((w.alloc o1).alloc o2).heap.size = w.heap.size + 1 + 1 := by simp
  refine ⟨?_, ?_, ?_⟩
  · rw [Below.heap_alloc _ _ _ (by omega), Below.heap_alloc _ _ _ (by omega), heap_alloc_new]
  · rw [Below.heap_alloc _ _ _ (by omega), ← z1, heap_alloc_new]
  · rw [← z2, heap_alloc_new]

set_option maxRecDepth 100000 in
set_option maxHeartbeats 1000000 in
theorem crash_cut (kl : List Bool) (torn cut : Int) (c : Nat) (hc : c ≤ 256) (hcut : (cut < 0 ∧ c = 0) ∨ (256 < cut ∧ c = 256) ∨ (0 ≤ cut ∧ cut ≤ 256 ∧ cut = c)) (v : Value) (hl : D.pend.length ≤ 1000000) (hkl : kl.length ≤ 9223372036854775807) (d : Dev S w p q pv D) (hv : Bools S w v kl) :
    Calls Try.prog 31 #[.pointer (some ⟨p, 0, none⟩), v, .int .i64 torn, .int .i64 cut] w fun e w' => e = .returned (.tuple #[]) ∧
      Dev S w' p q (.slice none 0 0) { disk := laidTo (left kl torn c) D.pend D.disk D.pend.length, pend := [], fused := false, fuse := 0, dead := false } ∧ Only S w w' := by
  let w3 := ((w.alloc (.cells #[v] 56)).alloc (.cells #[.int .i64 torn] 3)).alloc (.cells #[.int .i64 c] 3)
  have o3 : Only (fun _ => False) w w3 := (((Only.refl _ _).alloc _).alloc _).alloc _
  have d3 : Dev S w3 p q pv D := d.kept o3 (fun _ _ h => h)
  have ca : w3.cell? ⟨w.heap.size, 0, none⟩ = some v := by rw [cell_at (three_new w _ _ _).1]; rfl
  have cb : w3.cell? ⟨w.heap.size + 1, 0, none⟩ = some (.int .i64 torn) := by rw [cell_at (three_new w _ _ _).2.1]; rfl
  have cc : w3.cell? ⟨w.heap.size + 1 + 1, 0, none⟩ = some (.int .i64 c) := by rw [cell_at (three_new w _ _ _).2.2]; rfl
  have z3 : w3.heap.size = w.heap.size + 1 + 1 + 1 := by simp [w3]
  have ns : ∀ k, S k → k < w.heap.size := d.lt
  have cS := settle_any 66 #[.pointer (some ⟨w.heap.size, 0, none⟩), .pointer (some ⟨w.heap.size + 1, 0, none⟩), .pointer (some ⟨w.heap.size + 1 + 1, 0, none⟩)] (left kl torn c) hl (fun k _ => left_le _ _ _ _ hc) d3 enters_crash1 (fun k W hk hW => by
    have e1 := hW.cell (p := ⟨w.heap.size, 0, none⟩) (by rw [z3]; simp; omega) (fun h => by have := ns _ h; simp at this)
    have e2 := hW.cell (p := ⟨w.heap.size + 1, 0, none⟩) (by rw [z3]; simp) (fun h => by have := ns _ h; simp at this; omega)
    have e3 := hW.cell (p := ⟨w.heap.size + 1 + 1, 0, none⟩) (by rw [z3]; simp) (fun h => by have := ns _ h; simp at this; omega)
    exact crash1_any kl torn c k _ _ _ v W ((hv.kept o3 (fun _ h => h.elim)).kept hW (fun _ h => h)) hkl (e1.trans ca) (e2.trans cb) (e3.trans cc))
  have HS := Lib.hid cS
  have HO3 := Lib.hid o3
  have HNS := Lib.hid ns
  have HV := Lib.hid hv
  have hsh : ∃ ao n cap, v = .slice ao n cap := by obtain ⟨ao, cap, rfl, _⟩ := hv; exact ⟨ao, _, cap, rfl⟩
  clear cS d3 ca cb cc z3 ns o3 d hv hkl
  obtain ⟨ao, n, cap, rfl⟩ := hsh
  rcases hcut with ⟨h1, rfl⟩ | ⟨h1, rfl⟩ | ⟨h1, h2, rfl⟩
  all_goals
    go_enter Try.func31, Try.ntmps31
    go_wp2_with fail
    refine HS.out.mono ?_
    rintro e w4 ⟨rfl, hd4, ho4⟩
    have cF := fuse_dev (-1) (by omega) hd4
    have HF := Lib.hid cF; clear cF hd4
    have HO4 := Lib.hid ho4; clear ho4
    go_wp2_with fail
    refine HF.out.mono ?_
    rintro e w5 ⟨rfl, hd5, ho5, hz5⟩
    have c4 := hd5.c4
    have f4 := hd5.f 4
    have HD5 := Lib.hid hd5; clear hd5 hz5
    have HO5 := Lib.hid ho5; clear ho5
    go_wp2
    go_end0
    have d6 := HD5.out.put 4 (.bool false) { disk := laidTo (left kl torn _) D.pend D.disk D.pend.length, pend := [], fused := false, fuse := 0, dead := false } _ ⟨HD5.out.ok.some, HD5.out.ok.few, HD5.out.ok.whole, (fun x hx => by cases hx), Int.le_refl 0, by simp⟩ rfl rfl (World.ownsRow_nil _ _ _ _) HD5.out.rp HD5.out.rq HD5.out.sr
    refine ⟨rfl, d6, ?_⟩
    have o4 := (HO3.out.mono (T := S) (fun _ _ h => h.elim)).trans HO4.out (fun _ _ h => h)
    exact (o4.trans HO5.out (fun _ _ h => h)).setCell (fun _ => HD5.out.sp) _

theorem crash_any (kl : List Bool) (torn cut : Int) (v : Value) (hl : D.pend.length ≤ 1000000) (hkl : kl.length ≤ 9223372036854775807) (d : Stands S w p D) (hv : Bools S w v kl) :
    Calls Try.prog 31 #[.pointer (some ⟨p, 0, none⟩), v, .int .i64 torn, .int .i64 cut] w fun e w' => e = .returned (.tuple #[]) ∧ Stands S w' p (D.crash kl torn cut) ∧ Only S w w' := by
  obtain ⟨q, pv, d⟩ := d
  exact (crash_cut kl torn cut (min (max cut 0) 256).toNat (by omega) (by omega) v hl hkl d hv).mono fun e w' ⟨he, h1, h2⟩ => ⟨he, ⟨q, _, h1⟩, h2⟩

end
end Go.Proofs.Ytodfcbpimglhdaa
/- Blocks behind some pending writes: in plain lists. -/
namespace Go.Proofs.Ytodfcbpimglhdaa
open Go.RowKit

theorem take_snocL {α : Type} (L : List α) (k : Nat) (h : k < L.length) : L.take (k + 1) = L.take k ++ [L[k]] := by
  rw [List.take_succ_eq_append_getElem h]
theorem layB_all (x old : ByteArray) (hx : x.size = 256) (ho : old.size = 256) : layB x old 256 = x := by
  unfold layB
  rw [ho]
  apply ByteArray.ext
  have hx' : x.data.size = 256 := hx
  have e1 : x.data.extract 0 256 = x.data := by rw [← hx']; exact Array.extract_size
  have e2 : old.data.extract 256 256 = #[] := Array.extract_empty_of_stop_le_start (Nat.le_refl _)
  rw [ByteArray.data_append, ByteArray.data_extract, ByteArray.data_extract, e1, e2, Array.append_empty]
theorem layB_none (x old : ByteArray) : layB x old 0 = old := by
  unfold layB
  simp

theorem laidTo_get (f : Nat → Nat) (pend : List (Nat × ByteArray)) (disk : List ByteArray) (k j : Nat) (hk : k ≤ pend.length) (hf : ∀ i, i < k → f i = 256) (hj : j < disk.length) (hd : ∀ s ∈ disk, s.size = 256) (hp : ∀ x ∈ pend, x.1 < disk.length ∧ x.2.size = 256) :
    (laidTo f pend disk k).getD j ByteArray.empty = (match (pend.take k).reverse.find? (fun x => x.1 == j) with | some x => x.2 | none => disk.getD j ByteArray.empty) ∧ ((laidTo f pend disk k).getD j ByteArray.empty).size = 256 := by
  induction k generalizing j with
  | zero => exact ⟨rfl, by rw [laidTo, getD_lt _ _ hj]; exact hd _ (List.getElem_mem hj)⟩
  | succ k ih =>
    have hk' : k < pend.length := by omega
    have hx := hp pend[k] (List.getElem_mem hk')
    have ihx := ih pend[k].1 (by omega) (fun i hi => hf i (by omega)) hx.1
    have ihj := ih j (by omega) (fun i hi => hf i (by omega)) hj
    have hlen : (laidTo f pend disk k).length = disk.length := laidTo_length f pend disk k
    rw [laidTo_succ f pend disk k hk', take_snocL pend k hk', List.reverse_append]
    simp only [List.reverse_cons, List.reverse_nil, List.nil_append, List.singleton_append, List.find?_cons]
    have hl : layB pend[k].2 ((laidTo f pend disk k).getD pend[k].1 ByteArray.empty) (f k) = pend[k].2 := by
      rw [hf k (by omega)]; exact layB_all _ _ hx.2 ihx.2
    unfold layOne
    rw [hl]
    by_cases e : pend[k].1 = j
    · subst e
      have : ((laidTo f pend disk k).set pend[k].1 pend[k].2).getD pend[k].1 ByteArray.empty = pend[k].2 := by simp [List.getD, hlen, hx.1]
      rw [this]
      simp [hx.2]
    · have : ((laidTo f pend disk k).set pend[k].1 pend[k].2).getD j ByteArray.empty = (laidTo f pend disk k).getD j ByteArray.empty := by simp [List.getD, e]
      rw [this]
      have e' : (pend[k].1 == j) = false := by simpa using e
      simp only [e']
      exact ihj

end Go.Proofs.Ytodfcbpimglhdaa
/- The sum of bytes, and numbers and texts as bytes, in plain numbers and lists: nothing of the program is walked here. -/
namespace Go.Proofs.Ytodfcbpimglhdaa.Fr

/-- One bit of the sum. -/
def cStep (c : Nat) : Nat := if c % 2 = 1 then c / 2 ^^^ 3988292384 else c / 2
def cIter : Nat → Nat → Nat
  | 0, c => c
  | n + 1, c => cIter n (cStep c)
/-- The sum with one byte more, and with a list of bytes more. -/
def addB (c : Nat) (b : UInt8) : Nat := cIter 8 (c ^^^ b.toNat)
def crcRaw (c : Nat) (l : List UInt8) : Nat := l.foldl addB c
def crcL (l : List UInt8) : Nat := crcRaw 4294967295 l ^^^ 4294967295

theorem cStep_xor (a b : Nat) : cStep (a ^^^ b) = cStep a ^^^ cStep b := by
  have hd : (a ^^^ b) / 2 = a / 2 ^^^ b / 2 := Nat.xor_div_two
  have hm : (a ^^^ b) % 2 = (a % 2) ^^^ (b % 2) := Nat.xor_mod_two_pow (n := 1)
  unfold cStep
  rw [hd, hm]
  rcases Nat.mod_two_eq_zero_or_one a with ha | ha <;> rcases Nat.mod_two_eq_zero_or_one b with hb | hb <;> rw [ha, hb] <;> simp
  · rw [Nat.xor_assoc]
  · rw [Nat.xor_assoc, Nat.xor_comm (b / 2), ← Nat.xor_assoc]
  · apply Nat.eq_of_testBit_eq
    intro i
    simp only [Nat.testBit_xor]
    cases (a / 2).testBit i <;> cases (b / 2).testBit i <;> cases Nat.testBit 3988292384 i <;> rfl
theorem cIter_xor (n a b : Nat) : cIter n (a ^^^ b) = cIter n a ^^^ cIter n b := by
  induction n generalizing a b with
  | zero => rfl
  | succ n ih => unfold cIter; rw [cStep_xor, ih]
theorem cIter_add (m n c : Nat) : cIter (m + n) c = cIter n (cIter m c) := by
  induction m generalizing c with
  | zero => rw [Nat.zero_add]; rfl
  | succ m ih =>
    have e : m + 1 + n = m + n + 1 := by omega
    rw [e]; show cIter (m + n) (cStep c) = cIter n (cIter m (cStep c)); exact ih _
theorem cIter_succ' (n c : Nat) : cIter (n + 1) c = cStep (cIter n c) := cIter_add n 1 c
theorem cStep_lt (c : Nat) (h : c < 4294967296) : cStep c < 4294967296 := by
  unfold cStep
  split
  · have : c / 2 ^^^ 3988292384 < 2 ^ 32 := Nat.xor_lt_two_pow (by omega) (by omega)
    omega
  · omega
theorem cIter_lt (n c : Nat) (h : c < 4294967296) : cIter n c < 4294967296 := by
  induction n generalizing c with
  | zero => exact h
  | succ n ih => exact ih _ (cStep_lt c h)
theorem xor_lt32 (a b : Nat) (ha : a < 4294967296) (hb : b < 4294967296) : a ^^^ b < 4294967296 := by
  have : a ^^^ b < 2 ^ 32 := Nat.xor_lt_two_pow (by omega) (by omega)
  omega
theorem byte_lt (b : UInt8) : b.toNat < 256 := b.toNat_lt
theorem addB_lt (c : Nat) (b : UInt8) (h : c < 4294967296) : addB c b < 4294967296 := cIter_lt _ _ (xor_lt32 _ _ h (by have := byte_lt b; omega))
theorem crcRaw_lt (l : List UInt8) (c : Nat) (h : c < 4294967296) : crcRaw c l < 4294967296 := by
  induction l generalizing c with
  | nil => exact h
  | cons b l ih => exact ih _ (addB_lt c b h)
theorem crcL_lt (l : List UInt8) : crcL l < 4294967296 := xor_lt32 _ _ (crcRaw_lt l _ (by omega)) (by omega)
theorem crcRaw_append (c : Nat) (l m : List UInt8) : crcRaw c (l ++ m) = crcRaw (crcRaw c l) m := List.foldl_append ..
theorem crcRaw_snoc (c : Nat) (l : List UInt8) (b : UInt8) : crcRaw c (l ++ [b]) = addB (crcRaw c l) b := crcRaw_append c l [b]

theorem cStep_even (a : Nat) : cStep (2 * a) = a := by unfold cStep; rw [if_neg (by omega)]; omega
theorem cIter_shift (k a : Nat) : cIter k (a * 2 ^ k) = a := by
  induction k generalizing a with
  | zero => simp [cIter]
  | succ k ih =>
    have e : a * 2 ^ (k + 1) = 2 * (a * 2 ^ k) := by rw [Nat.pow_succ, ← Nat.mul_assoc, Nat.mul_comm 2]
    unfold cIter; rw [e, cStep_even, ih]
theorem cStep_zero (c : Nat) (h : c < 4294967296) (hz : cStep c = 0) : c = 0 := by
  unfold cStep at hz
  split at hz
  · have h2 := congrArg (· ^^^ 3988292384) hz
    simp only [Nat.xor_assoc, Nat.xor_self, Nat.xor_zero, Nat.zero_xor] at h2
    omega
  · omega
theorem cIter_zero (n c : Nat) (h : c < 4294967296) (hz : cIter n c = 0) : c = 0 := by
  induction n generalizing c with
  | zero => exact hz
  | succ n ih => exact cStep_zero c h (ih _ (cStep_lt c h) hz)

/-- Bytes as one number, the first the lowest. -/
def leN : List UInt8 → Nat
  | [] => 0
  | b :: l => b.toNat + 256 * leN l
theorem low_xor (b x : Nat) (hb : b < 256) : b + 256 * x = b ^^^ 256 * x := by
  have e : b + 256 * x = 2 ^ 8 * x + b := by omega
  have e2 : 256 * x = 2 ^ 8 * x := by omega
  rw [e, e2]
  apply Nat.eq_of_testBit_eq
  intro i
  rw [Nat.testBit_two_pow_mul_add _ (by omega), Nat.testBit_xor, Nat.testBit_two_pow_mul]
  by_cases h : i < 8
  · rw [if_pos h, decide_eq_false (by omega)]; simp
  · rw [if_neg h, decide_eq_true (by omega), Nat.testBit_lt_two_pow (x := b) (i := i)]
    · simp
    · exact Nat.lt_of_lt_of_le (show b < 2 ^ 8 by omega) (Nat.pow_le_pow_right (by omega) (by omega))
theorem mul_xor (k x y : Nat) : (x ^^^ y) * 2 ^ k = x * 2 ^ k ^^^ y * 2 ^ k := by
  rw [← Nat.shiftLeft_eq, ← Nat.shiftLeft_eq, ← Nat.shiftLeft_eq, Nat.shiftLeft_xor_distrib]
theorem crcRaw_le (l : List UInt8) (c : Nat) : crcRaw c l = cIter (8 * l.length) (c ^^^ leN l) := by
  induction l generalizing c with
  | nil => simp [crcRaw, leN, cIter]
  | cons b l ih =>
    have e : 8 * (b :: l).length = 8 + 8 * l.length := by simp; omega
    have e2 : c ^^^ leN (b :: l) = (c ^^^ b.toNat) ^^^ leN l * 2 ^ 8 := by
      show c ^^^ (b.toNat + 256 * leN l) = _
      rw [low_xor _ _ (byte_lt b), Nat.xor_assoc, Nat.mul_comm 256]
    rw [e, cIter_add, e2, cIter_xor 8, cIter_shift]
    exact ih (addB c b)
theorem leN_inj (l m : List UInt8) (hl : l.length = m.length) (h : leN l = leN m) : l = m := by
  induction l generalizing m with
  | nil => cases m with
    | nil => rfl
    | cons => simp at hl
  | cons b l ih =>
    cases m with
    | nil => simp at hl
    | cons c m =>
      simp only [leN] at h
      have h1 := byte_lt b
      have h2 := byte_lt c
      have hb : b.toNat = c.toNat := by omega
      rw [UInt8.toNat_inj.1 hb, ih m (by simpa using hl) (by omega)]
theorem leN_set (l : List UInt8) (i : Nat) (h : i < l.length) (m : UInt8) : leN (l.set i (l[i] ^^^ m)) = leN l ^^^ m.toNat * 2 ^ (8 * i) := by
  induction l generalizing i with
  | nil => simp at h
  | cons b l ih =>
    cases i with
    | zero =>
      show (b ^^^ m).toNat + 256 * leN l = (b.toNat + 256 * leN l) ^^^ _
      have h1 := byte_lt (b ^^^ m)
      rw [low_xor _ _ (byte_lt b), low_xor _ _ h1, UInt8.toNat_xor]
      simp only [Nat.mul_zero, Nat.pow_zero, Nat.mul_one]
      rw [Nat.xor_assoc, Nat.xor_assoc, Nat.xor_comm m.toNat]
    | succ i =>
      have hi : i < l.length := by simpa using h
      show b.toNat + 256 * leN (l.set i (l[i] ^^^ m)) = (b.toNat + 256 * leN l) ^^^ _
      have e : m.toNat * 2 ^ (8 * (i + 1)) = m.toNat * 2 ^ (8 * i) * 2 ^ 8 := by rw [Nat.mul_assoc, ← Nat.pow_add]; congr 2
      rw [ih i hi, e, low_xor _ _ (byte_lt b), low_xor _ _ (byte_lt b), Nat.mul_comm 256, Nat.mul_comm 256, show (256 : Nat) = 2 ^ 8 from rfl, mul_xor, Nat.xor_assoc]

/-- Two lists of one length that differ by up to 32 bits beside one another, and have one sum, are one. -/
theorem crc_burst (l m : List UInt8) (hl : m.length = l.length) (k B : Nat) (hk : k ≤ 8 * l.length) (hB : B < 4294967296) (he : leN m = leN l ^^^ B * 2 ^ k) (hc : crcL m = crcL l) : m = l := by
  have h1 : crcRaw 4294967295 m = crcRaw 4294967295 l := by
    have := congrArg (· ^^^ 4294967295) hc
    simpa [crcL, Nat.xor_assoc] using this
  rw [crcRaw_le, crcRaw_le, hl, he, ← Nat.xor_assoc, cIter_xor] at h1
  have h2 : cIter (8 * l.length) (B * 2 ^ k) = 0 := by
    have := congrArg (cIter (8 * l.length) (4294967295 ^^^ leN l) ^^^ ·) h1
    simpa [← Nat.xor_assoc] using this
  have e : 8 * l.length = k + (8 * l.length - k) := by omega
  rw [e, cIter_add, cIter_shift] at h2
  have hz := cIter_zero _ _ hB h2
  subst hz
  apply leN_inj m l hl
  rw [he]; simp

/-- Three lists of one length laid over one another. -/
theorem leN_xor (l m : List UInt8) (hl : l.length = m.length) : leN (List.zipWith (· ^^^ ·) l m) = leN l ^^^ leN m := by
  induction l generalizing m with
  | nil => cases m with
    | nil => rfl
    | cons => simp at hl
  | cons b l ih =>
    cases m with
    | nil => simp at hl
    | cons c m =>
      show (b ^^^ c).toNat + 256 * leN (List.zipWith (· ^^^ ·) l m) = (b.toNat + 256 * leN l) ^^^ (c.toNat + 256 * leN m)
      rw [ih m (by simpa using hl), low_xor _ _ (byte_lt _), low_xor _ _ (byte_lt b), low_xor _ _ (byte_lt c), UInt8.toNat_xor, Nat.mul_comm 256, show (256 : Nat) = 2 ^ 8 from rfl, mul_xor, Nat.mul_comm (2 ^ 8) (leN l), Nat.mul_comm (2 ^ 8) (leN m)]
      ac_rfl
theorem crc_linear (a b c : List UInt8) (hb : a.length = b.length) (hc : a.length = c.length) :
    crcL (List.zipWith (· ^^^ ·) (List.zipWith (· ^^^ ·) a b) c) = crcL a ^^^ crcL b ^^^ crcL c := by
  have h1 : (List.zipWith (· ^^^ ·) a b).length = a.length := by simp; omega
  have h2 : (List.zipWith (· ^^^ ·) (List.zipWith (· ^^^ ·) a b) c).length = a.length := by simp; omega
  unfold crcL
  rw [crcRaw_le, crcRaw_le, crcRaw_le, crcRaw_le, h2, leN_xor _ _ (by omega), leN_xor _ _ hb, ← hb, ← hc]
  simp only [cIter_xor]
  generalize cIter (8 * a.length) 4294967295 = F
  generalize cIter (8 * a.length) (leN a) = A
  generalize cIter (8 * a.length) (leN b) = B
  generalize cIter (8 * a.length) (leN c) = C
  generalize 4294967295 = E
  apply Nat.eq_of_testBit_eq
  intro i
  simp only [Nat.testBit_xor]
  cases F.testBit i <;> cases A.testBit i <;> cases B.testBit i <;> cases C.testBit i <;> cases E.testBit i <;> rfl

/-- What WireFlips turns: after i of the 32 bits. -/
theorem flip_step (n k i bits : Nat) (hk : k < 8 * n) :
    bits % 2 ^ min (i + 1) (8 * n - k) * 2 ^ k = if bits / 2 ^ i % 2 = 1 ∧ k + i < 8 * n then bits % 2 ^ min i (8 * n - k) * 2 ^ k ^^^ 2 ^ (k + i) else bits % 2 ^ min i (8 * n - k) * 2 ^ k := by
  by_cases h : k + i < 8 * n
  · have e1 : min (i + 1) (8 * n - k) = i + 1 := by omega
    have e2 : min i (8 * n - k) = i := by omega
    have hl : bits % 2 ^ i < 2 ^ i := Nat.mod_lt _ (Nat.two_pow_pos i)
    have e3 : bits % 2 ^ (i + 1) = bits % 2 ^ i + 2 ^ i * (bits / 2 ^ i % 2) := Nat.mod_pow_succ
    rw [e1, e2, e3]
    rcases Nat.mod_two_eq_zero_or_one (bits / 2 ^ i) with hb | hb
    · rw [hb, if_neg (by omega)]; simp
    · rw [hb, if_pos ⟨rfl, h⟩, Nat.mul_one, Nat.pow_add, Nat.mul_comm (2 ^ k) (2 ^ i), ← mul_xor]
      congr 1
      apply Nat.eq_of_testBit_eq
      intro j
      have e4 : bits % 2 ^ i + 2 ^ i = 2 ^ i * 1 + bits % 2 ^ i := by omega
      rw [e4, Nat.testBit_two_pow_mul_add _ hl, Nat.testBit_xor, Nat.testBit_two_pow]
      by_cases hj : j < i
      · rw [if_pos hj, decide_eq_false (by omega)]; simp
      · rw [if_neg hj, Nat.testBit_lt_two_pow (x := bits % 2 ^ i) (i := j) (Nat.lt_of_lt_of_le hl (Nat.pow_le_pow_right (by omega) (by omega)))]
        by_cases hij : i = j
        · subst hij; simp
        · rw [decide_eq_false hij]
          have : Nat.testBit 1 (j - i) = false := by
            rw [show (1 : Nat) = 2 ^ 0 from rfl, Nat.testBit_two_pow]; exact decide_eq_false (by omega)
          rw [this]; rfl
  · have e1 : min (i + 1) (8 * n - k) = 8 * n - k := by omega
    have e2 : min i (8 * n - k) = 8 * n - k := by omega
    rw [e1, e2, if_neg (fun hh => h hh.2)]

end Go.Proofs.Ytodfcbpimglhdaa.Fr
/- The sum of bytes: what addByte and Crc answer, for any byte and any texts; nothing that was there is changed. -/
namespace Go.Proofs.Ytodfcbpimglhdaa.Fr
open Go.RowKit

theorem odd_and (x : Nat) (h : x < 4294967296) : bits .and .u32 (x : Int) 1 = ((x % 2 : Nat) : Int) := by
  rw [show (1 : Int) = ((1 : Nat) : Int) from rfl, u32_and_nat x 1 h (by omega), nat_mask1]

theorem xor_u32 (a b : Nat) (ha : a < 4294967296) (hb : b < 4294967296) : bits .xor .u32 (a : Int) (b : Int) = ((a ^^^ b : Nat) : Int) := u32_xor_nat a b ha hb

theorem half_xor (x : Nat) (h : x < 4294967296) : bits .xor .u32 ((x : Int) / 2) 3988292384 = ((x / 2 ^^^ 3988292384 : Nat) : Int) := by
  rw [show (x : Int) / 2 = ((x / 2 : Nat) : Int) by omega, show (3988292384 : Int) = ((3988292384 : Nat) : Int) from rfl, u32_xor_nat _ _ (by omega) (by omega)]
theorem ret_u32 {k : IntKind} {a b : Int} (h : a = b) : Value.int k a = .int k b := by rw [h]

set_option maxRecDepth 100000 in
set_option maxHeartbeats 1000000 in
theorem addByte_any (c : Nat) (b : UInt8) (w : World) (hc : c < 4294967296) :
    Calls Try.prog 102 #[.int .u32 (c : Int), .int .u8 (b.toNat : Int)] w fun e w' => e = .returned (.int .u32 ((addB c b : Nat) : Int)) ∧ w = w' := by
  have hb := byte_lt b
  have HX := Lib.hid (xor_u32 c b.toNat hc (by omega))
  have HL := Lib.hid (xor_lt32 c b.toNat hc (by omega))
  go_enter Try.func102, Try.ntmps102
  go_wp2
  go_loop [0, 10] (fun s i => ∃ k : Nat, k ≤ 8 ∧ i = .int .i64 k ∧ s = .int .u32 ((cIter k (c ^^^ b.toNat) : Nat) : Int)) (fun _ i => 8 - (intOf i).toNat)
  case atStart => exact ⟨0, Nat.zero_le _, rfl, ret_u32 HX.out⟩
  case round =>
    obtain ⟨k, hk, rfl, rfl⟩ := hrel
    have hxl := cIter_lt k _ HL.out
    obtain ⟨x, hx⟩ : ∃ x, cIter k (c ^^^ b.toNat) = x := ⟨_, rfl⟩
    have HS : Hid (cIter (k + 1) (c ^^^ b.toNat) = cStep x) := by show _ = _; rw [cIter_succ', hx]
    rw [hx] at hxl ⊢
    have HXX := Lib.hid hx; clear hx
    by_cases hlt : k < 8
    · by_cases ho : x % 2 = 1
      · have hand : bits .and .u32 (x : Int) 1 = 1 := by rw [odd_and x hxl, ho]; rfl
        have HF : Hid (bits .xor .u32 ((x : Int) / 2) 3988292384 = ((cStep x : Nat) : Int)) := by show _ = _; rw [half_xor x hxl]; unfold cStep; rw [if_pos ho]
        clear ho
        go_wp2
        go_round
        case rel => exact ⟨k + 1, by omega, by go_num, by rw [HS.out]; exact ret_u32 HF.out⟩
        case measure => simp [intOf]; omega
      · have hand : bits .and .u32 (x : Int) 1 = 0 := by rw [odd_and x hxl, show x % 2 = 0 by omega]; rfl
        have HF : Hid (((x : Int) / 2) = ((cStep x : Nat) : Int)) := by show _ = _; unfold cStep; rw [if_neg ho]; omega
        clear ho
        go_wp2
        go_round
        case rel => exact ⟨k + 1, by omega, by go_num, by rw [HS.out]; exact ret_u32 HF.out⟩
        case measure => simp [intOf]; omega
    · have hk8 : k = 8 := by omega
      subst hk8
      go_wp2
      go_ret
      exact ⟨by rw [← HXX.out]; rfl, rfl⟩

/-- A slice of texts: nil, or so many cells. -/
def Strs (w : World) (v : Value) (L : List ByteArray) : Prop := (v = .slice none 0 0 ∧ L = []) ∨ ∃ b off c, v = .slice (some ⟨b, off, none⟩) L.length c ∧ b < w.heap.size ∧ ∀ j (h : j < L.length), w.cell? ⟨b, off + j, none⟩ = some (.string L[j])
/-- The bytes of texts, one behind the other. -/
def joinB (L : List ByteArray) : List UInt8 := L.flatMap fun s => s.data.toList
theorem joinB_take (L : List ByteArray) (k : Nat) (h : k < L.length) : joinB (L.take (k + 1)) = joinB (L.take k) ++ L[k].data.toList := by
  rw [List.take_succ_eq_append_getElem h]; unfold joinB; rw [List.flatMap_append]; simp only [List.flatMap_cons, List.flatMap_nil, List.append_nil]
theorem take_snoc (s : ByteArray) (k : Nat) (h : k < s.size) : s.data.toList.take (k + 1) = s.data.toList.take k ++ [s[k]] := by
  rw [List.take_succ_eq_append_getElem (by simpa using h)]; rfl
theorem not_u32 (x : Nat) (h : x < 4294967296) : bits .xor .u32 IntKind.u32.max (x : Int) = ((x ^^^ 4294967295 : Nat) : Int) := by
  rw [show IntKind.u32.max = ((4294967295 : Nat) : Int) from rfl, u32_xor_nat _ _ (by omega) h, Nat.xor_comm]

set_option maxRecDepth 100000 in
set_option maxHeartbeats 1000000 in
theorem crc_nil (w : World) :
    Calls Try.prog 98 #[.slice none 0 0] w fun e w' => e = .returned (.int .u32 ((crcL [] : Nat) : Int)) ∧ w = w' := by
  have HN := Lib.hid (show bits .xor .u32 IntKind.u32.max 4294967295 = ((crcL [] : Nat) : Int) from not_u32 4294967295 (by omega))
  go_enter Try.func98, Try.ntmps98
  go_wp2
  go_loop [3, 9] (fun s i => i = .int .i64 0 ∧ s = .int .u32 4294967295) (fun _ _ => 0)
  case atStart => exact ⟨rfl, rfl⟩
  case round =>
    obtain ⟨rfl, rfl⟩ := hrel
    go_wp2
    go_ret
    exact ⟨by rw [← HN.out]; rfl, rfl⟩

set_option maxRecDepth 100000 in
set_option maxHeartbeats 1000000 in
theorem crc_some (L : List ByteArray) (b off c : Nat) (w : World) (hn : L.length ≤ maxLen) (hs : ∀ s ∈ L, s.size ≤ maxLen)
    (hc : ∀ j (h : j < L.length), w.cell? ⟨b, off + j, none⟩ = some (.string L[j])) :
    Calls Try.prog 98 #[.slice (some ⟨b, off, none⟩) L.length c] w fun e w' => e = .returned (.int .u32 ((crcL (joinB L) : Nat) : Int)) ∧ w = w' := by
  unfold maxLen at hn
  have HC := Lib.hid hc; clear hc
  have HS := Lib.hid hs; clear hs
  go_enter Try.func98, Try.ntmps98
  go_wp2
  go_loop [3, 9] (fun s i => ∃ k : Nat, k ≤ L.length ∧ i = .int .i64 k ∧ s = .int .u32 ((crcRaw 4294967295 (joinB (L.take k)) : Nat) : Int)) (fun _ i => L.length - (intOf i).toNat)
  case atStart => exact ⟨0, Nat.zero_le _, rfl, rfl⟩
  case round =>
    obtain ⟨k, hk, rfl, rfl⟩ := hrel
    have hxl := crcRaw_lt (joinB (L.take k)) 4294967295 (by omega)
    obtain ⟨x, hx⟩ : ∃ x, crcRaw 4294967295 (joinB (L.take k)) = x := ⟨_, rfl⟩
    rw [hx] at hxl ⊢
    have HX := Lib.hid hx; clear hx
    by_cases hlt : k < L.length
    · have hcell := HC.out k hlt
      have hsz := HS.out L[k] (List.getElem_mem hlt)
      have HJ : Hid (crcRaw 4294967295 (joinB (L.take (k + 1))) = crcRaw x L[k].data.toList) := by show _ = _; rw [joinB_take L k hlt, crcRaw_append, HX.out]
      unfold maxLen at hsz
      obtain ⟨p, hp⟩ : ∃ p, L[k] = p := ⟨_, rfl⟩
      rw [hp] at hcell hsz HJ
      clear hp
      go_wp2
      go_loop [3, 15] (fun s i => ∃ j : Nat, j ≤ p.size ∧ i = .int .i64 j ∧ s = .int .u32 ((crcRaw x (p.data.toList.take j) : Nat) : Int)) (fun _ i => p.size - (intOf i).toNat)
      case atStart => exact ⟨0, Nat.zero_le _, rfl, rfl⟩
      case round =>
        obtain ⟨j, hj, rfl, rfl⟩ := hrel
        have hyl := crcRaw_lt (p.data.toList.take j) x hxl
        obtain ⟨y, hy⟩ : ∃ y, crcRaw x (p.data.toList.take j) = y := ⟨_, rfl⟩
        rw [hy] at hyl ⊢
        have HY := Lib.hid hy; clear hy
        by_cases hjl : j < p.size
        · have HJ2 : Hid (crcRaw x (p.data.toList.take (j + 1)) = addB y p[j]) := by show _ = _; rw [take_snoc p j hjl, crcRaw_snoc, HY.out]
          go_wp2_with (go_at_call 102; refine (addByte_any y p[j] _ hyl).mono ?_; rintro e w' ⟨rfl, rfl⟩)
          go_round
          case rel => exact ⟨j + 1, by omega, by go_num, by rw [HJ2.out]⟩
          case measure => simp [intOf]; omega
        · have HE : Hid (y = crcRaw x p.data.toList) := by show _ = _; rw [← HY.out, List.take_of_length_le (by simp; omega)]
          go_wp2
          go_round
          case rel => exact ⟨k + 1, by omega, by go_num, by rw [HJ.out, HE.out]⟩
          case measure => simp [intOf]; omega
    · have HE : Hid (bits .xor .u32 IntKind.u32.max (x : Int) = ((crcL (joinB L) : Nat) : Int)) := by
        show _ = _
        rw [not_u32 x hxl, ← HX.out, List.take_of_length_le (by omega)]; rfl
      go_wp2
      go_ret
      exact ⟨by rw [← HE.out]; rfl, rfl⟩

theorem crc_any (L : List ByteArray) (v : Value) (w : World) (hn : L.length ≤ maxLen) (hs : ∀ s ∈ L, s.size ≤ maxLen) (h : Strs w v L) :
    Calls Try.prog 98 #[v] w fun e w' => e = .returned (.int .u32 ((crcL (joinB L) : Nat) : Int)) ∧ w = w' := by
  rcases h with ⟨rfl, rfl⟩ | ⟨b, off, c, rfl, _, hc⟩
  · exact crc_nil w
  · exact crc_some L b off c w hn hs hc
end Go.Proofs.Ytodfcbpimglhdaa.Fr
/- Numbers and texts as bytes, in plain numbers and lists: what is written, what is read; nothing of the program is walked here. -/
namespace Go.Proofs.Ytodfcbpimglhdaa.Fr

/-- A number as bytes: seven bits each, the lowest first. -/
def varL (v : Nat) : List UInt8 := if v < 128 then [UInt8.ofNat v] else UInt8.ofNat (v % 128 + 128) :: varL (v / 128)
termination_by v
decreasing_by omega
/-- The number that bytes say. -/
def valL : List UInt8 → Nat
  | [] => 0
  | b :: t => b.toNat % 128 + 128 * valL t
/-- How many bytes the number has that a list begins with, i of them gone by; 0, if there is none. -/
def vsz : Nat → List UInt8 → Nat
  | _, [] => 0
  | i, b :: t => if 10 ≤ i then 0 else if 128 ≤ b.toNat then vsz (i + 1) t else if (0 < i ∧ b.toNat = 0) ∨ (i = 9 ∧ 1 < b.toNat) then 0 else i + 1
/-- What is read of bytes: the number and the rest. -/
def rdV (l : List UInt8) : Option (Nat × List UInt8) := if vsz 0 l = 0 then none else some (valL (l.take (vsz 0 l)), l.drop (vsz 0 l))
/-- A text as bytes, and what is read. -/
def textL (t : List UInt8) : List UInt8 := varL t.length ++ t
def rdT (l : List UInt8) : Option (List UInt8 × List UInt8) :=
  match rdV l with
  | none => none
  | some (n, r) => if n ≤ r.length then some (r.take n, r.drop n) else none

theorem varL_lo (v : Nat) (h : v < 128) : varL v = [UInt8.ofNat v] := by rw [varL, if_pos h]
theorem varL_hi (v : Nat) (h : 128 ≤ v) : varL v = UInt8.ofNat (v % 128 + 128) :: varL (v / 128) := by rw [varL, if_neg (by omega)]
theorem toNat_of (n : Nat) (h : n < 256) : (UInt8.ofNat n).toNat = n := by rw [UInt8.toNat_ofNat']; exact Nat.mod_eq_of_lt h
theorem varL_len (v : Nat) : 1 ≤ (varL v).length := by
  by_cases h : v < 128
  · rw [varL_lo v h]; simp
  · rw [varL_hi v (by omega)]; simp
theorem valL_varL (v : Nat) : valL (varL v) = v := by
  induction v using Nat.strongRecOn with
  | ind v ih =>
    by_cases h : v < 128
    · rw [varL_lo v h]; simp only [valL]; rw [toNat_of v (by omega)]; omega
    · rw [varL_hi v (by omega)]; simp only [valL]; rw [ih (v / 128) (by omega), toNat_of _ (by omega)]; omega
theorem pow_part (i : Nat) (h : i ≤ 8) : 2 ^ (64 - 7 * i) = 2 ^ (64 - 7 * (i + 1)) * 128 := by
  have e : 64 - 7 * i = 64 - 7 * (i + 1) + 7 := by omega
  rw [e, Nat.pow_add]
theorem pow_small (i : Nat) (h : 9 ≤ i) (h2 : i ≤ 9) : 2 ^ (64 - 7 * i) = 2 := by
  have e : i = 9 := by omega
  subst e; rfl
/-- What was written is told with its length. -/
theorem vsz_varL (v : Nat) (s : List UInt8) (i : Nat) (hi : i ≤ 9) (hv : v < 2 ^ (64 - 7 * i)) (h0 : 0 < i → 0 < v) : vsz i (varL v ++ s) = i + (varL v).length := by
  induction v using Nat.strongRecOn generalizing i with
  | ind v ih =>
    by_cases h : v < 128
    · rw [varL_lo v h]
      simp only [List.cons_append, List.nil_append, vsz]
      rw [toNat_of v (by omega), if_neg (by omega), if_neg (by omega), if_neg]
      · rfl
      · intro hh
        rcases hh with ⟨h1, h2⟩ | ⟨h1, h2⟩
        · have := h0 h1; omega
        · have := pow_small i (by omega) (by omega); omega
    · have hi8 : i ≤ 8 := by
        apply Decidable.byContradiction
        intro hh
        have := pow_small i (by omega) (by omega); omega
      have hp := pow_part i hi8
      have hq : v / 128 < 2 ^ (64 - 7 * (i + 1)) := by rw [hp] at hv; omega
      rw [varL_hi v (by omega)]
      simp only [List.cons_append, vsz, List.length_cons]
      rw [toNat_of _ (by omega), if_neg (by omega), if_pos (by omega), ih (v / 128) (by omega) (i + 1) (by omega) hq (fun _ => by omega)]
      omega
/-- What is told is a number as it is written. -/
theorem vsz_some (l : List UInt8) (i : Nat) (hi : i ≤ 10) (h : vsz i l ≠ 0) :
    ∃ m, vsz i l = i + m ∧ 1 ≤ m ∧ m ≤ l.length ∧ i + m ≤ 10 ∧ varL (valL (l.take m)) = l.take m ∧ valL (l.take m) < 2 ^ (64 - 7 * i) ∧ (0 < i → 0 < valL (l.take m)) := by
  induction l generalizing i with
  | nil => exact absurd rfl h
  | cons b t ih =>
    simp only [vsz] at h ⊢
    by_cases h10 : 10 ≤ i
    · rw [if_pos h10] at h; exact absurd rfl h
    · rw [if_neg h10] at h ⊢
      by_cases hb : 128 ≤ b.toNat
      · rw [if_pos hb] at h ⊢
        obtain ⟨m, e, h1, h2, h3, h4, h5, h6⟩ := ih (i + 1) (by omega) h
        have h7 := h6 (by omega)
        have hlt := byte_lt b
        have hp := pow_part i (by omega)
        refine ⟨m + 1, by omega, by omega, by simp; omega, by omega, ?_, ?_, ?_⟩
        · rw [List.take_succ_cons]
          simp only [valL]
          rw [varL_hi _ (by omega)]
          have e1 : (b.toNat % 128 + 128 * valL (t.take m)) % 128 + 128 = b.toNat := by omega
          have e2 : (b.toNat % 128 + 128 * valL (t.take m)) / 128 = valL (t.take m) := by omega
          rw [e1, e2, h4, UInt8.ofNat_toNat]
        · rw [List.take_succ_cons]; simp only [valL]; rw [hp]; omega
        · intro _; rw [List.take_succ_cons]; simp only [valL]; omega
      · rw [if_neg hb] at h ⊢
        by_cases hc : (0 < i ∧ b.toNat = 0) ∨ (i = 9 ∧ 1 < b.toNat)
        · rw [if_pos hc] at h; exact absurd rfl h
        · rw [if_neg hc]
          refine ⟨1, rfl, Nat.le_refl _, by simp, by omega, ?_, ?_, ?_⟩
          · rw [List.take_succ_cons, List.take_zero]
            simp only [valL]
            rw [varL_lo _ (by omega), show b.toNat % 128 + 128 * 0 = b.toNat by omega, UInt8.ofNat_toNat]
          · rw [List.take_succ_cons, List.take_zero]
            simp only [valL]
            by_cases h9 : i = 9
            · have := pow_small i (by omega) (by omega); omega
            · have hp : 2 ^ 7 ≤ 2 ^ (64 - 7 * i) := Nat.pow_le_pow_right (by omega) (by omega)
              omega
          · intro hi0
            rw [List.take_succ_cons, List.take_zero]
            simp only [valL]
            omega
theorem vsz_step (l : List UInt8) (k : Nat) (h : k < l.length) (hk : k < 10) (hb : 128 ≤ (l[k]).toNat) : vsz k (l.drop k) = vsz (k + 1) (l.drop (k + 1)) := by
  rw [List.drop_eq_getElem_cons h]
  simp only [vsz]
  rw [if_neg (by omega), if_pos hb]
theorem vsz_last (l : List UInt8) (k : Nat) (h : k < l.length) (hk : k < 10) (hb : (l[k]).toNat < 128) : vsz k (l.drop k) = if (0 < k ∧ (l[k]).toNat = 0) ∨ (k = 9 ∧ 1 < (l[k]).toNat) then 0 else k + 1 := by
  rw [List.drop_eq_getElem_cons h]
  simp only [vsz]
  rw [if_neg (by omega), if_neg (by omega)]
theorem vsz_end (l : List UInt8) (k : Nat) (h : l.length ≤ k ∨ 10 ≤ k) : vsz k (l.drop k) = 0 := by
  by_cases hl : l.length ≤ k
  · rw [List.drop_of_length_le hl]; rfl
  · rw [List.drop_eq_getElem_cons (by omega)]
    simp only [vsz]
    rw [if_pos (by omega)]

theorem rdV_varL (v : Nat) (s : List UInt8) (h : v < 18446744073709551616) : rdV (varL v ++ s) = some (v, s) := by
  have e := vsz_varL v s 0 (by omega) h (fun hh => by omega)
  have hl := varL_len v
  unfold rdV
  rw [e, Nat.zero_add, if_neg (by omega), List.take_left, List.drop_left, valL_varL]
theorem rdV_some {l : List UInt8} {v : Nat} {r : List UInt8} (h : rdV l = some (v, r)) : varL v ++ r = l ∧ v < 18446744073709551616 ∧ vsz 0 l ≠ 0 ∧ vsz 0 l ≤ l.length ∧ vsz 0 l ≤ 10 ∧ v = valL (l.take (vsz 0 l)) ∧ r = l.drop (vsz 0 l) := by
  unfold rdV at h
  by_cases hz : vsz 0 l = 0
  · rw [if_pos hz] at h; cases h
  · rw [if_neg hz] at h
    obtain ⟨m, e, h1, h2, h3, h4, h5, _⟩ := vsz_some l 0 (by omega) hz
    rw [e, Nat.zero_add] at h ⊢
    cases h
    exact ⟨by rw [h4, List.take_append_drop], h5, by omega, h2, by omega, rfl, rfl⟩
theorem rdV_none {l : List UInt8} (h : rdV l = none) : vsz 0 l = 0 := by
  unfold rdV at h
  by_cases hz : vsz 0 l = 0
  · exact hz
  · rw [if_neg hz] at h; cases h
/-- The reader that writes anew and compares reads the same. -/
theorem rd_again (l : List UInt8) (k : Nat) (hz : vsz 0 l = 0) : varL (valL (l.take (k + 1)) % 18446744073709551616) ≠ l.take (k + 1) := by
  intro h
  have e := rdV_varL (valL (l.take (k + 1)) % 18446744073709551616) (l.drop (k + 1)) (Nat.mod_lt _ (by omega))
  rw [h, List.take_append_drop] at e
  exact (rdV_some e).2.2.1 hz
theorem rd_again' (l : List UInt8) (hz : vsz 0 l ≠ 0) : varL (valL (l.take (vsz 0 l)) % 18446744073709551616) = l.take (vsz 0 l) ∧ valL (l.take (vsz 0 l)) % 18446744073709551616 = valL (l.take (vsz 0 l)) := by
  obtain ⟨m, e, h1, h2, h3, h4, h5, _⟩ := vsz_some l 0 (by omega) hz
  rw [e, Nat.zero_add]
  have e2 : valL (l.take m) % 18446744073709551616 = valL (l.take m) := Nat.mod_eq_of_lt h5
  exact ⟨by rw [e2, h4], e2⟩

theorem rdT_textL (t s : List UInt8) (h : t.length < 18446744073709551616) : rdT (textL t ++ s) = some (t, s) := by
  unfold rdT textL
  rw [List.append_assoc, rdV_varL _ _ h]
  simp
theorem rdT_some {l t r : List UInt8} (h : rdT l = some (t, r)) : textL t ++ r = l := by
  unfold rdT at h
  cases hv : rdV l with
  | none => rw [hv] at h; cases h
  | some p =>
    obtain ⟨n, q⟩ := p
    rw [hv] at h
    simp only at h
    by_cases hn : n ≤ q.length
    · rw [if_pos hn] at h
      cases h
      have e := (rdV_some hv).1
      unfold textL
      rw [List.length_take, Nat.min_eq_left hn, List.append_assoc, List.take_append_drop, e]
    · rw [if_neg hn] at h; cases h

theorem valL_snoc (l : List UInt8) (b : UInt8) : valL (l ++ [b]) = valL l + (b.toNat % 128) * 128 ^ l.length := by
  induction l with
  | nil => simp [valL]
  | cons c l ih =>
    simp only [List.cons_append, valL, ih, List.length_cons, Nat.pow_succ]
    rw [Nat.mul_add, ← Nat.mul_assoc, Nat.mul_comm 128 (b.toNat % 128), Nat.mul_assoc, Nat.mul_comm 128 (128 ^ l.length)]
    omega
theorem valL_lt (l : List UInt8) : valL l < 128 ^ l.length := by
  induction l with
  | nil => simp [valL]
  | cons c l ih => simp only [valL, List.length_cons, Nat.pow_succ]; omega

/-- Four bytes of a number. -/
def fixL (v : Nat) : List UInt8 := [UInt8.ofNat v, UInt8.ofNat (v / 256), UInt8.ofNat (v / 65536), UInt8.ofNat (v / 16777216)]
def unfix (a b c d : UInt8) : Nat := a.toNat + 256 * b.toNat + 65536 * c.toNat + 16777216 * d.toNat
theorem unfix_fixL (v : Nat) (h : v < 4294967296) : unfix (UInt8.ofNat v) (UInt8.ofNat (v / 256)) (UInt8.ofNat (v / 65536)) (UInt8.ofNat (v / 16777216)) = v := by
  unfold unfix
  simp only [UInt8.toNat_ofNat']
  omega

end Go.Proofs.Ytodfcbpimglhdaa.Fr
