/- What the document's device's Write answers and leaves behind: the same as in plain lists. -/
import Derived.Test.YthambopnmhkeeaaGreatZNewD
import Derived.Laws.AppendOwnNone
import Derived.Test.YthambopnmhkeeaaGreatZSettle

set_option maxRecDepth 100000
namespace Go.Proofs.YthambopnmhkeeaaGreat
open Go.RowKit
section
variable {S : Nat -> Prop} {w w' : World} {r q lcap : Nat} {pv : Value} {D : DevS}
set_option maxHeartbeats 1000000 in
theorem rwrite_no (i : Int) (s : ByteArray) (hck : D.ck i ≠ 0) (d : Ref S w r q lcap pv D) :
  Calls Tryz.prog 29 #[.pointer (some ⟨r, 0, none⟩), .int .i64 i, .string s] w fun e w' => e = .returned (.int .i64 (D.ck i)) /\ w = w' := by
 have c0 := d.c0; have c3 := d.c3; have hn := d.ok.few
 clear d
 by_cases hde : D.dead = true
 ·have e : D.ck i = 4 := by simp [DevS.ck, hde]
  rw [e]
  rw [hde] at c3
  clear hck e hde
  generalize D.disk.length = n at *
  go_enter Tryz.func29, Tryz.ntmps29
  go_wp2
  go_ret
  exact ⟨rfl, rfl⟩
 ·have hdf : D.dead = false := by simpa using hde
  have h : i < 0 \/ (0 <= i /\ (D.disk.length : Int) <= i) := by
   unfold DevS.ck at hck; rw [hdf] at hck; simp at hck; omega
  have e : D.ck i = 2 := by unfold DevS.ck; rw [hdf, if_neg (by simp), if_pos (by omega)]
  rw [e]
  rw [hdf] at c3
  clear hck e hde hdf
  generalize D.disk.length = n at *
  rcases h with h | ⟨h, h'⟩
  all_goals
   go_enter Tryz.func29, Tryz.ntmps29
   go_wp2
   go_ret
   exact ⟨rfl, rfl⟩
theorem ck_zero {D : DevS} {i : Int} (h1 : D.ck i = 0) : D.dead = false /\ 0 <= i /\ i < D.disk.length := by
 unfold DevS.ck at h1
 split at h1
 ·omega
 ·split at h1
  ·omega
  ·exact ⟨by simp_all, by omega, by omega⟩
set_option maxHeartbeats 1000000 in
theorem rwrite_size (i : Int) (s : ByteArray) (hs : ((s.size : Int) != 256) = true) (hck : D.ck i = 0) (d : Ref S w r q lcap pv D) :
  Calls Tryz.prog 29 #[.pointer (some ⟨r, 0, none⟩), .int .i64 i, .string s] w fun e w' => e = .returned (.int .i64 3) /\ w = w' := by
 have c0 := d.c0; have c3 := d.c3; have hn := d.ok.few
 obtain ⟨h1, h2, h3⟩ := ck_zero hck
 rw [h1] at c3
 clear d hck h1
 generalize D.disk.length = n at *
 go_enter Tryz.func29, Tryz.ntmps29
 go_wp2
 go_ret
 exact ⟨rfl, rfl⟩
set_option maxHeartbeats 1000000 in
theorem rwrite_dies (i : Int) (s : ByteArray) (hs : ((s.size : Int) != 256) = false) (hck : D.ck i = 0) (htk : D.tk.1 = false) (d : Ref S w r q lcap pv D) :
  Calls Tryz.prog 29 #[.pointer (some ⟨r, 0, none⟩), .int .i64 i, .string s] w fun e w' => e = .returned (.int .i64 4) /\ Ref S w' r q lcap pv D.tk.2 /\ Only S w w' := by
 have c0 := d.c0; have c3 := d.c3; have hn := d.ok.few
 obtain ⟨h1, h2, h3⟩ := ck_zero hck
 rw [h1] at c3
 have cT := rturn_any d; rw [htk] at cT
 have HT := Lib.hid cT
 clear d hck h1 cT htk
 generalize D.disk.length = n at *
 go_enter Tryz.func29, Tryz.ntmps29
 go_wp2_with fail
 refine HT.out.mono ?_
 rintro e w1 ⟨rfl, hd1, ho1, hz1⟩
 have HD1 := Lib.hid hd1; have HO := Lib.hid ho1; clear hd1 ho1 hz1
 go_wp2
 go_ret
 exact ⟨rfl, HD1.out, HO.out⟩
theorem Ref.widen {S' : Nat -> Prop} (d : Ref S w r q lcap pv D) (h : ∀ k, S k -> S' k) (hl : ∀ k, S' k -> k < w.heap.size) : Ref S' w r q lcap pv D :=
 ⟨d.ok, d.hp, d.hl, d.hr, d.qr, d.rp, d.rq, h _ d.sp, h _ d.sq, fun k hk => h _ (d.sr k hk), hl⟩
theorem Ref.newrow {w1 w2 : World} {v' : Value} {s : ByteArray} (i : Nat) (d : Ref S w1 r q lcap pv D) (hown : w2.ownsRow w1.heap.size 63 2 v' (D.pend.length + 1) (flatW D.pend ++ [.int .i64 (i : Int), .string s])) (hb : Below w1.heap.size w1 w2) (his : i < D.disk.length) (hs : s.size = 256) :
  Ref (fun k => S k \/ (w1.heap.size <= k /\ k < w2.heap.size)) (w2.setCell ⟨r, 1, none⟩ v') r q lcap v' { D with pend := D.pend ++ [(i, s)] } /\ Only S w1 (w2.setCell ⟨r, 1, none⟩ v') := by
 have lr := d.lt r d.sp; have lq := d.lt q d.sq
 have d2 : Ref S w2 r q lcap pv D := d.kept (Only.of_below (fun _ => False) hb (Nat.le_refl _)) (fun _ _ f => f)
 have d2' : Ref (fun k => S k \/ (w1.heap.size <= k /\ k < w2.heap.size)) w2 r q lcap pv D := d2.widen (fun _ h => .inl h) (fun k hk => by
  rcases hk with h | h
  ·exact d2.lt k h
  ·exact h.2)
 have hlt := hown.lt
 have e : flatW (D.pend ++ [(i, s)]) = flatW D.pend ++ [.int .i64 (i : Int), .string s] := by rw [flatW_append]; rfl
 refine ⟨d2'.put 1 v' { D with pend := D.pend ++ [(i, s)] } v' ⟨d.ok.some, d.ok.few, d.ok.whole, (fun x hx => by
   simp only [List.mem_append, List.mem_singleton] at hx
   rcases hx with h | rfl
   ·exact d.ok.pends x h
   ·exact ⟨his, hs⟩), d.ok.fuse0, d.ok.fuse1⟩ rfl rfl ?_ (fun e => by have := (hlt r e).1; omega) (fun e => by have := (hlt q e).1; omega) (fun k hk => .inr (hlt k hk)),
  (Only.of_below S hb (Nat.le_refl _)).setCell (fun _ => d.sp) _⟩
 simp only [List.length_append, List.length_singleton, e]
 refine ⟨hown.1, ?_⟩
 rcases hown.2 with h' | ⟨g, cap, cur, h1, h2, h3⟩
 ·exact .inl h'
 ·exact .inr ⟨g, cap, cur, h1, Nat.zero_le _, h3⟩
theorem Ref.finish {w1 wz : World} {z : Nat} {v' : Value} {E : DevS} (h : Ref (fun k => S k \/ (w1.heap.size <= k /\ k < z)) wz r q lcap v' E) (ho : Only S w1 wz) (h0 : Only S w w1) (hz : w1.heap.size = w.heap.size) : RLeaves S w wz r E :=
 ⟨_, fun k hk => by
  rcases hk with h | h
  ·exact .inl h
  ·exact .inr (by omega), ⟨q, lcap, v', h⟩, h0.trans ho (fun _ _ h => h)⟩
theorem zero_own {w : World} {base : Nat} {e : TypeId} {size n : Nat} {v : Value} {xs : List Value} (h : w.ownsRow base e size v (0 + n) ([] ++ xs)) : w.ownsRow base e size v n xs := by
 simpa using h
theorem grown_first {w1 wa : World} {o : Obj} {n c : Nat} (h : (w1.alloc o).grownBy wa (Value.slice (some ⟨w1.heap.size, 0, none⟩) n c).ownBlock) : Below w1.heap.size w1 wa :=
 ((Below.refl _ _).alloc (Nat.le_refl _) _).grown h (by simp) (fun k hk => by simp [Value.ownBlock] at hk; omega)
set_option maxHeartbeats 2000000 in
theorem rwrite_adds (i : Int) (s : ByteArray) (hs : s.size = 256) (hl : D.pend.length <= 1000000) (hck : D.ck i = 0) (htk : D.tk.1 = true) (d : Ref S w r q lcap pv D) :
  Calls Tryz.prog 29 #[.pointer (some ⟨r, 0, none⟩), .int .i64 i, .string s] w fun e w' => e = .returned (.int .i64 0) /\ RLeaves S w w' r { D.tk.2 with pend := D.pend ++ [(i.toNat, s)] } := by
 have c0 := d.c0; have c3 := d.c3; have hn := d.ok.few
 obtain ⟨h1, h2, h3⟩ := ck_zero hck
 rw [h1] at c3
 obtain ⟨j, rfl⟩ := Int.eq_ofNat_of_zero_le h2
 have HJ : Hid (j < D.tk.2.disk.length) := by show j < _; rw [DevS.tk_disk]; omega
 have cT := rturn_any d; rw [htk] at cT
 have HT := Lib.hid cT
 have hs' : ((s.size : Int) != 256) = false := by simp [hs]
 have HSz := Lib.hid hs
 have HPd : Hid (D.tk.2.pend = D.pend) := DevS.tk_pend D
 obtain ⟨i0, hi, hz0, hz1, hz2⟩ := info_parts Tryz.infoW
 have HZ2 := Lib.hid hz2
 have hfew : D.disk.length <= 4096 := hn
 clear d hck h1 cT htk hs hz2 hn
 generalize D.disk.length = n at *
 go_enter Tryz.func29, Tryz.ntmps29
 go_wp2_with fail
 refine HT.out.mono ?_
 rintro e w1 ⟨rfl, hd1, ho1, hz1'⟩
 have HD1 := Lib.hid hd1; have HO := Lib.hid ho1; have HZ := Lib.hid hz1'
 have c1 := hd1.c1
 have hrow := hd1.hr
 rw [HPd.out] at hrow
 have HR := Lib.hid hrow
 have lr := hd1.lt r hd1.sp
 have fr := hd1.f 1
 clear hd1 ho1 hz1'
 rcases hrow.2 with ⟨rfl, hz⟩ | ⟨bb, cap, cur, rfl, hx⟩
 ·have HE : Hid (D.pend = []) := List.eq_nil_of_length_eq_zero hz
  clear hrow hz
  have HM : Hid ((w1.alloc (.cells #[] 63)).ownsRow w1.heap.size 63 2 (.slice (some ⟨w1.heap.size, 0, none⟩) 0 0) 0 []) := World.ownsRow_made w1 #[] 0 (Nat.le_refl _) (by unfold maxLen; omega) rfl
  go_wp2_with (first
   | (at_builtin; refine wpList_append_own_none rfl (.tmp 31) (.tmp 35) 49 rfl w1.heap.size 63 i0 2 Tryz.underlying49 hi _ 0 [] rfl HM.out rfl ?_)
   | (at_builtin; refine wpList_append_own _ rfl (.tmp 36) (.tmp 40) 49 rfl w1.heap.size 63 i0 _ 2 24 Tryz.underlying49 hi hz0 hz1 HZ2.out rfl (by decide) _ _ _ rfl (HM.out.alloc _) ⟨w1.heap.size + 1, 0, none⟩ 1 1 [.int .i64 j, .string s] rfl rfl ?cA1 ?cA2 ?cA3 ?cA4 ?cA5 ?_))
  case cA1 =>
   intro j' u hj
   match j', hj with
   | 0, hj => simp at hj; subst hj; simp [Addr.add]
   | 1, hj => simp at hj; subst hj; simp [Addr.add]
  case cA2 => intro u hu; simp at hu; rcases hu with rfl | rfl <;> rfl
  case cA3 => unfold maxLen; omega
  case cA4 => omega
  case cA5 => simp; omega
  intro v' w2 hown' hgrow _
  obtain ⟨g, cap2, rfl⟩ := own_succ hown'
  have HBW : Hid (Below w1.heap.size w1 w2) := (((Below.refl _ _).alloc (Nat.le_refl _) _).alloc (by simp) _).grown hgrow (by simp; omega) (fun k hk => by simp [Value.ownBlock] at hk; omega)
  have HNR := Lib.hid (HD1.out.newrow j (by rw [HPd.out, HE.out]; exact hown') HBW.out HJ.out HSz.out)
  have c1' : w2.cell? ⟨r, 1, none⟩ = some (.slice none 0 0) := by rw [HBW.out.cell (p := ⟨r, 1, none⟩) lr]; exact HD1.out.c1
  have f1' : w2.frozen? ⟨r, 1, none⟩ = false := by rw [HBW.out.frozen (p := ⟨r, 1, none⟩) lr]; exact HD1.out.f 1
  clear hown' hgrow c1 fr
  go_wp2
  go_ret
  exact ⟨rfl, by have := HNR.out.1.finish HNR.out.2 HO.out HZ.out; rw [HPd.out] at this; exact this⟩
 ·have hbl : bb < w1.heap.size := (Array.getElem?_eq_some_iff.1 hx.2.1).1
  have HM : Hid ((w1.alloc (.cells #[] 63)).ownsRow w1.heap.size 63 2 (.slice (some ⟨w1.heap.size, 0, none⟩) 0 0) 0 []) := World.ownsRow_made w1 #[] 0 (Nat.le_refl _) (by unfold maxLen; omega) rfl
  have HNW : Hid (∀ j' u, (flatW D.pend)[j']? = some u -> (w1.alloc (.cells #[] 63)).cell? ((⟨bb, 0, none⟩ : Addr).add j') = some u) := by
   intro j' u hu
   have h0 := HR.out.cells (g := bb) rfl j' u hu
   have hadd : (⟨bb, 0, none⟩ : Addr).add j' = ⟨bb, j', none⟩ := by unfold Addr.add; split <;> simp_all
   rw [hadd] at h0 ⊢
   rw [((Below.refl w1.heap.size w1).alloc (Nat.le_refl _) _).cell (p := ⟨bb, j', none⟩) hbl]
   exact h0
  have HON := Lib.hid (flatW_one D.pend)
  have HLN : Hid ((flatW D.pend).length = D.pend.length * 2) := flatW_length _
  clear hrow hx
  obtain ⟨np, hnp⟩ : ∃ np, D.pend.length = np := ⟨_, rfl⟩
  obtain ⟨FW, hfw⟩ : ∃ FW, flatW D.pend = FW := ⟨_, rfl⟩
  rw [hnp, hfw] at HLN
  rw [hfw] at HNW HON
  rw [hnp] at hl c1
  have HNP := Lib.hid hnp; have HFW := Lib.hid hfw
  clear hnp hfw
  go_wp2_with (first
   | (at_builtin; refine wpList_append_own _ rfl (.tmp 31) (.tmp 35) 49 rfl w1.heap.size 63 i0 _ 2 24 Tryz.underlying49 hi hz0 hz1 HZ2.out rfl (by decide) _ _ _ rfl HM.out ⟨bb, 0, none⟩ np cap FW rfl HLN.out HNW.out HON.out (by unfold maxLen; omega) (by omega) (by simp) ?_; intro v1 wa hown1 hgrow1 _; go_must (have HOW := Lib.hid (zero_own hown1); have HBa := Lib.hid (grown_first hgrow1); clear hown1 hgrow1))
   | (at_builtin; refine wpList_append_own _ rfl (.tmp 36) (.tmp 40) 49 rfl w1.heap.size 63 i0 _ 2 24 Tryz.underlying49 hi hz0 hz1 HZ2.out rfl (by decide) _ _ _ rfl (HOW.out.alloc _) ⟨wa.heap.size, 0, none⟩ 1 1 [.int .i64 j, .string s] rfl rfl ?cB1 ?cB2 ?cB3 ?cB4 ?cB5 ?_))
  case cB1 =>
   intro j' u hj
   match j', hj with
   | 0, hj => simp at hj; subst hj; simp [Addr.add]
   | 1, hj => simp at hj; subst hj; simp [Addr.add]
  case cB2 => intro u hu; simp at hu; rcases hu with rfl | rfl <;> rfl
  case cB3 => unfold maxLen; omega
  case cB4 => omega
  case cB5 => have := HBa.out.size; simp; omega
  intro v' w2 hown' hgrow _
  obtain ⟨g, cap2, rfl⟩ := own_succ hown'
  have HBW : Hid (Below w1.heap.size w1 w2) := (HBa.out.alloc HBa.out.size _).grown hgrow (by have := HBa.out.size; simp; omega) (fun k hk => (HOW.out.lt k hk).1)
  have HNR := Lib.hid (HD1.out.newrow j (by rw [HPd.out, HNP.out, HFW.out]; exact hown') HBW.out HJ.out HSz.out)
  have c1' : w2.cell? ⟨r, 1, none⟩ = some (.slice (some ⟨bb, 0, none⟩) np cap) := by rw [HBW.out.cell (p := ⟨r, 1, none⟩) lr]; exact c1
  have f1' : w2.frozen? ⟨r, 1, none⟩ = false := by rw [HBW.out.frozen (p := ⟨r, 1, none⟩) lr]; exact fr
  clear hown' hgrow c1 fr
  go_wp2
  go_ret
  exact ⟨rfl, by have := HNR.out.1.finish HNR.out.2 HO.out HZ.out; rw [HPd.out] at this; exact this⟩
theorem rwrite_any (i : Int) (s : ByteArray) (hl : D.pend.length <= 1000000) (d : RStands S w r D) :
  Calls Tryz.prog 29 #[.pointer (some ⟨r, 0, none⟩), .int .i64 i, .string s] w fun e w' => e = .returned (.int .i64 (D.wr i s).1) /\ RLeaves S w w' r (D.wr i s).2 := by
 obtain ⟨q, lcap, pv, d⟩ := d
 by_cases h1 : D.ck i = 0
 ·by_cases h2 : s.size = 256
  ·by_cases h3 : D.tk.1 = false
   ·have e : D.wr i s = (4, D.tk.2) := by simp [DevS.wr, h1, h2, h3]
    rw [e]
    exact (rwrite_dies i s (by simp [h2]) h1 h3 d).mono fun e w' ⟨he, hd, ho⟩ => ⟨he, .mk ⟨q, lcap, pv, hd⟩ ho⟩
   ·have e : D.wr i s = (0, { D.tk.2 with pend := D.pend ++ [(i.toNat, s)] }) := by simp [DevS.wr, h1, h2, h3]
    rw [e]
    exact rwrite_adds i s h2 hl h1 (by simpa using h3) d
  ·have e : D.wr i s = (3, D) := by simp [DevS.wr, h1, h2]
   rw [e]
   exact (rwrite_size i s (by simp; omega) h1 d).mono fun e w' ⟨he, hw⟩ => by subst hw; exact ⟨he, .mk ⟨q, lcap, pv, d⟩ (Only.refl _ _)⟩
 ·have e : D.wr i s = (D.ck i, D) := by simp [DevS.wr, h1]
  rw [e]
  exact (rwrite_no i s h1 d).mono fun e w' ⟨he, hw⟩ => by subst hw; exact ⟨he, .mk ⟨q, lcap, pv, d⟩ (Only.refl _ _)⟩
end
end Go.Proofs.YthambopnmhkeeaaGreat
/- What the document's device's Flush and Crash answer and leave behind: the same as in plain lists. -/
set_option maxRecDepth 100000
namespace Go.Proofs.YthambopnmhkeeaaGreat
open Go.RowKit
section
variable {f : Nat -> Nat} {pend : List (Nat × ByteArray)} {disk : List ByteArray} {k : Nat}
theorem laid_all (h : k < pend.length) (hf : f k = 256) (hx : pend[k].2.size = 256) (ho : ((laidTo f pend disk k).getD pend[k].1 ByteArray.empty).size = 256) : laidTo f pend disk (k + 1) = (laidTo f pend disk k).set pend[k].1 pend[k].2 := by
 rw [laidTo_succ f pend disk k h]; unfold layOne; rw [hf, layB_all _ _ hx ho]
end
section
variable {S : Nat -> Prop} {w w' : World} {r q lcap : Nat} {pv : Value} {D : DevS}
theorem Ref.lay (d : Ref S w r q lcap pv D) (b : Nat) (s : ByteArray) (hs : s.size = 256) : Ref S (w.setCell ⟨q, b, none⟩ (.string s)) r q lcap pv { D with disk := D.disk.set b s } := by
 refine ⟨⟨by simpa using d.ok.some, by simpa using d.ok.few, ?_, by simpa using d.ok.pends, d.ok.fuse0, d.ok.fuse1⟩, ?_, ?_, ?_, d.qr, d.rp, d.rq, d.sp, d.sq, d.sr, fun k hk => by simpa [World.setCell] using d.lt k hk⟩
 ·intro u hu
  rcases List.mem_or_eq_of_mem_set hu with h | h
  ·exact d.ok.whole u h
  ·rw [h]; exact hs
 ·rw [Below.heap_setCell _ _ _ _ (Ne.symm d.qr), List.length_set]; exact d.hp
 ·have := (World.ownsRow.stored d.hl b (.string s)).1
  simpa [List.map_set] using this
 ·exact ownsRow_setCell_other d.hr (by simpa using d.rq) _
theorem Ref.emptied (d : Ref S w r q lcap pv D) : Ref S (w.setCell ⟨r, 1, none⟩ (.slice none 0 0)) r q lcap (.slice none 0 0) { D with pend := [] } :=
 d.put 1 _ _ _ ⟨d.ok.some, d.ok.few, d.ok.whole, (fun x h => by cases h), d.ok.fuse0, d.ok.fuse1⟩ rfl rfl (World.ownsRow_nil _ _ _ _) (by simp [Value.ownBlock]) (by simp [Value.ownBlock]) (fun k hk => by simp [Value.ownBlock] at hk)
set_option maxHeartbeats 2000000 in
theorem rflush_goes (hl : D.pend.length <= 1000000) (hde : D.dead = false) (htk : D.tk.1 = true) (d : Ref S w r q lcap pv D) :
  Calls Tryz.prog 137 #[.pointer (some ⟨r, 0, none⟩)] w fun e w' => e = .returned (.int .i64 0) /\ Ref S w' r q lcap (.slice none 0 0) { D.tk.2 with disk := laidTo (fun _ => 256) D.pend D.disk D.pend.length, pend := [] } /\ Only S w w' := by
 have c3 := d.c3; rw [hde] at c3
 have cT := rturn_any d; rw [htk] at cT
 have e1 : D.tk.2.pend = D.pend := DevS.tk_pend D
 have e2 : D.tk.2.disk = D.disk := DevS.tk_disk D
 rw [<- e1] at hl
 rw [<- e1, <- e2]
 clear e1 e2 htk hde d
 generalize D.tk.2 = E at *
 have HT := Lib.hid cT
 clear cT
 go_enter Tryz.func137, Tryz.ntmps137
 go_wp2_with fail
 refine HT.out.mono ?_
 rintro e w1 ⟨rfl, hd1, ho1, _⟩
 obtain ⟨ao, cap, hpv⟩ := own_shape hd1.hr
 obtain ⟨n, hn⟩ : ∃ n, E.pend.length = n := ⟨_, rfl⟩
 rw [hn] at hpv hl
 subst hpv
 have HE := Lib.hid hd1; have HO := Lib.hid ho1; have HN := Lib.hid hn
 clear hd1 ho1 HT hn c3
 go_wp2_with fail
 go_loopw [4] (fun i wr => ∃ k : Nat, k <= n /\ i = .int .i64 k /\ Hid (Ref S wr r q lcap (.slice ao n cap) { E with disk := laidTo (fun _ => 256) E.pend E.disk k } /\ Only S w wr)) (fun i _ => n - (intOf i).toNat)
 case atStart => exact ⟨0, Nat.zero_le _, rfl, HE.out, HO.out⟩
 case round =>
  obtain ⟨k, hk, rfl, HI⟩ := hrel
  have c1 := HI.out.1.c1
  by_cases hlt : k < n
  ·have hkp : k < E.pend.length := by rw [HN.out]; exact hlt
   obtain ⟨b, e⟩ : ∃ b, ao = some ⟨b, 0, none⟩ := by
    rcases HE.out.hr.2 with ⟨h1, h2⟩ | ⟨g, cap', cur, h1, _⟩
    ·rw [HN.out] at h2; omega
    ·simp at h1; exact ⟨g, h1.1⟩
   subst e
   have c0 := HI.out.1.c0
   simp only [laidTo_length] at c0
   obtain ⟨d0, d1⟩ := HI.out.1.cr k hkp
   have hpd := HE.out.ok.pends E.pend[k] (List.getElem_mem hkp)
   have hbl : E.pend[k].1 < (laidTo (fun _ => 256) E.pend E.disk k).length := by rw [laidTo_length]; exact hpd.1
   have e0 := HI.out.1.cq E.pend[k].1 hbl
   have e0f := HI.out.1.fq E.pend[k].1
   have ho : ((laidTo (fun _ => 256) E.pend E.disk k).getD E.pend[k].1 ByteArray.empty).size = 256 := by
    rw [getD_lt _ _ hbl]; exact HI.out.1.ok.whole _ (List.getElem_mem hbl)
   have HL := Lib.hid (HI.out.1.lay E.pend[k].1 E.pend[k].2 hpd.2)
   have HX : Hid (laidTo (fun _ => 256) E.pend E.disk (k + 1) = (laidTo (fun _ => 256) E.pend E.disk k).set E.pend[k].1 E.pend[k].2) := laid_all hkp rfl hpd.2 ho
   have hbD := hpd.1
   have hrq := HI.out.1.qr
   clear hpd hbl ho
   simp only at HL e0 d0 d1
   generalize (laidTo (fun _ => 256) E.pend E.disk k).getD E.pend[k].1 ByteArray.empty = old at *
   generalize E.pend[k] = x at *
   obtain ⟨xb, xs⟩ := x
   simp only at *
   have hbz : (xb : Int) < (E.disk.length : Int) := by omega
   clear hkp
   generalize E.disk.length = nd at *
   go_wp2
   go_region
   go_wp2
   go_roundw
   case rel => exact ⟨k + 1, by omega, by go_num, (by show Ref _ _ _ _ _ _ _; rw [HX.out]; exact HL.out.kept (T := fun _ => False) ((Only.refl _ _).drew) (fun _ _ h => h)), (HI.out.2.setCell (fun _ => HI.out.1.sq) _).drew⟩
   case measure => simp [intOf]; omega
  ·have hkn : k = n := by omega
   subst hkn
   have f1 := HI.out.1.f 1
   have HF : Hid (Ref S (wr.setCell ⟨r, 1, none⟩ (.slice none 0 0)) r q lcap (.slice none 0 0) { E with disk := laidTo (fun _ => 256) E.pend E.disk E.pend.length, pend := [] }) := by
    have := HI.out.1.emptied
    rw [HN.out]
    exact this
   go_wp2
   go_ret
   exact ⟨rfl, HF.out, HI.out.2.setCell (fun _ => HI.out.1.sp) _⟩
set_option maxHeartbeats 1000000 in
theorem rflush_dead (c3 : w.cell? ⟨r, 3, none⟩ = some (.bool true)) :
  Calls Tryz.prog 137 #[.pointer (some ⟨r, 0, none⟩)] w fun e w' => e = .returned (.int .i64 4) /\ w = w' := by
 go_enter Tryz.func137, Tryz.ntmps137
 go_wp2
 go_ret
 exact ⟨rfl, rfl⟩
set_option maxHeartbeats 1000000 in
theorem rflush_dies (hde : D.dead = false) (htk : D.tk.1 = false) (d : Ref S w r q lcap pv D) :
  Calls Tryz.prog 137 #[.pointer (some ⟨r, 0, none⟩)] w fun e w' => e = .returned (.int .i64 4) /\ Ref S w' r q lcap pv D.tk.2 /\ Only S w w' := by
 have c3 := d.c3; rw [hde] at c3
 have cT := rturn_any d; rw [htk] at cT
 have HT := Lib.hid cT
 clear cT htk hde d
 go_enter Tryz.func137, Tryz.ntmps137
 go_wp2_with fail
 refine HT.out.mono ?_
 rintro e w1 ⟨rfl, hd1, ho1, _⟩
 have HD1 := Lib.hid hd1; have HO := Lib.hid ho1; clear hd1 ho1
 go_wp2
 go_ret
 exact ⟨rfl, HD1.out, HO.out⟩
theorem rflush_any (hl : D.pend.length <= 1000000) (d : RStands S w r D) :
  Calls Tryz.prog 137 #[.pointer (some ⟨r, 0, none⟩)] w fun e w' => e = .returned (.int .i64 D.fl.1) /\ RStands S w' r D.fl.2 /\ Only S w w' := by
 obtain ⟨q, lcap, pv, d⟩ := d
 by_cases h1 : D.dead = true
 ·have e : D.fl = (4, D) := by simp [DevS.fl, h1]
  rw [e]
  exact (rflush_dead (by rw [d.c3, h1])).mono fun e w' ⟨he, hw⟩ => by subst hw; exact ⟨he, ⟨q, lcap, pv, d⟩, Only.refl _ _⟩
 ·by_cases h2 : D.tk.1 = false
  ·have e : D.fl = (4, D.tk.2) := by simp [DevS.fl, h1, h2]
   rw [e]
   exact (rflush_dies (by simpa using h1) h2 d).mono fun e w' ⟨he, hd, ho⟩ => ⟨he, ⟨q, lcap, pv, hd⟩, ho⟩
  ·have e : D.fl = (0, { D.tk.2 with disk := laidTo (fun _ => 256) D.pend D.disk D.pend.length, pend := [] }) := by simp [DevS.fl, h1, h2]
   rw [e]
   exact (rflush_goes hl (by simpa using h1) (by simpa using h2) d).mono fun e w' ⟨he, hd, ho⟩ => ⟨he, ⟨q, lcap, _, hd⟩, ho⟩
end
end Go.Proofs.YthambopnmhkeeaaGreat
