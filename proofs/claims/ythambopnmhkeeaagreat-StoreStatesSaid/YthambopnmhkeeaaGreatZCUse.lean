/- What use leaves: the number first, all others in their order. -/
import Derived.Test.YthambopnmhkeeaaGreatZFBase
import Derived.Test.YthambopnmhkeeaaGreatZCBase

set_option maxRecDepth 100000
namespace Go.Proofs.YthambopnmhkeeaaGreat.Ca
open Go.RowKit
theorem wpList_copy_only {P : Program} {w : World} {ops : Array Oper} {rest : List Oper} {o : Oper} {a : Act} {Q : Exit -> Act -> World -> Prop} (hgd : o.guard = none) (d s : Operand) (dT sT : TypeId)
  (ho : o.op = .call { callee := .builtin .copy, args := #[d, s], argTypes := #[dT, sT] }) (elem : TypeId) (hu : P.underlying dT = some (.slice elem)) (hsz : (P.info? elem).map (·.size) = some 1)
  (dp sp : Option Addr) (dLen dCap sLen sCap : Nat) (hd : a.eval d = .slice dp dLen dCap) (hs : a.eval s = .slice sp sLen sCap)
  (g off : Nat) (cur : List Value) (t : TypeId) (hg : w.heap[g]? = some (.cells cur.toArray t (0, 0))) (cs : List Value) (hn : cs.length = Nat.min sLen dLen)
  (hpos : 0 < cs.length -> dp = some ⟨g, off, none⟩ /\ ∃ ad, sp = some ad /\ ∀ j v, cs[j]? = some v -> w.cell? (ad.add j) = some v)
  (hfit : off + cs.length <= cur.length) (h1 : ∀ v ∈ cs, v.oneCell' = true)
  (h : ∀ w', Hid (w'.heap[g]? = some (.cells (splice cur off cs).toArray t (0, 0))) -> Hid (Only (fun k => k = g) w w') -> wpList P ops Q rest (a.put o.dst (goInt cs.length)) w') :
  wpList P ops Q (o :: rest) a w := by
 by_cases h0 : cs.length = 0
 ·obtain rfl : cs = [] := List.eq_nil_of_length_eq_zero h0
  refine wpList_copy_nothing hgd d s dT sT ho elem hu hsz dp sp dLen dCap sLen sCap hd hs (by simpa using hn.symm) ?_
  exact h w (show _ = _ by simpa [splice] using hg) (show Only _ _ _ from Only.refl _ _)
 ·obtain ⟨rfl, ad, rfl, hsrc⟩ := hpos (by omega)
  refine wpList_copy_own hgd d s dT sT ho elem hu hsz g off dLen dCap ad sLen sCap hd hs cur.toArray t hg cs hn hsrc (by simpa using hfit) h1 ?_
  refine h _ (show _ = _ by simpa [splice] using setRow_heap w g _ _ t _ hg) (show Only _ _ _ from ⟨rfl, rfl, rfl, by simp [World.setRow], fun k _ hk => setRow_other w g k _ hk⟩)
theorem front_row {α : Type} (cur : List α) (k n : Nat) (v : α) (hk : k < n) (hn : n <= cur.length) : ((splice cur 1 (cur.take k)).set 0 v).take n = v :: (cur.take n).eraseIdx k := by
 have hl : (cur.take k).length = k := by rw [List.length_take]; omega
 cases cur with
 | nil => simp at hn; omega
 | cons x r =>
  unfold splice
  rw [hl]
  simp only [List.take_succ_cons, List.take_zero, List.cons_append, List.nil_append, List.set_cons_zero]
  cases n with
  | zero => omega
  | succ n =>
   rw [List.take_succ_cons, List.take_succ_cons]
   congr 1
   rw [List.eraseIdx_eq_take_drop_succ, Nat.add_comm 1 k, List.drop_succ_cons, List.drop_succ_cons, <- List.take_succ_cons, List.take_take, List.drop_take]
   rw [List.take_append, hl, Nat.min_eq_left (by omega)]
   rw [List.take_of_length_le (by rw [hl]; omega)]
theorem map_eraseIdx' {α β : Type} (f : α -> β) (l : List α) (k : Nat) : (l.eraseIdx k).map f = (l.map f).eraseIdx k := by
 induction l generalizing k with
 | nil => rfl
 | cons y r ih => cases k with
  | zero => rfl
  | succ j => simp [ih]
theorem setCell_row {w : World} {O : List Int} {g cap n : Nat} {cur : List Value} {e : TypeId} (hg : w.heap[g]? = some (.cells cur.toArray e (0, 0))) (v : Value) (h : (cur.set 0 v).take n = O.map (Value.int .i64)) (hn : O.length = n) (hc : n <= cap) (hm : cap <= maxLen) (hl : cur.length = cap) :
  (w.setCell ⟨g, 0, none⟩ v).ownsRow 0 e 1 (.slice (some ⟨g, 0, none⟩) n cap) O.length (O.map (Value.int .i64)) := by
 refine ⟨by simp, .inr ⟨g, cap, (cur.set 0 v).toArray, by rw [hn], Nat.zero_le _, ?_, by omega, hm, by simp [hl], by rw [hn, Nat.mul_one]; exact h⟩⟩
 rw [heap_setCell_at hg, List.setIfInBounds_toArray]
structure Cur (w : World) (g cap n k : Nat) (cl : List Value) (O : List Int) : Prop where
 hg : w.heap[g]? = some (.cells cl.toArray 3 (0, 0))
 len : cl.length = cap
 tk : cl.take n = O.map (Value.int .i64)
 ln : O.length = n
 kn : k < n
 nc : n <= cap
 cm : cap <= maxLen
theorem Cur.cs {w : World} {g cap n k : Nat} {cl : List Value} {O : List Int} (h : Cur w g cap n k cl O) : (cl.take k).length = k := by
 have := h.len; have := h.kn; have := h.nc; rw [List.length_take]; omega
theorem Cur.sc {w : World} {g cap n k : Nat} {cl : List Value} {O : List Int} (h : Cur w g cap n k cl O) : ∀ j v, (cl.take k)[j]? = some v -> w.cell? ((⟨g, 0, none⟩ : Addr).add j) = some v := by
 intro j v hj
 rw [List.getElem?_take] at hj
 split at hj
 ·rw [Addr.add_lit, Nat.zero_add, cell_at h.hg]; simpa using hj
 ·cases hj
theorem Cur.o1 {w : World} {g cap n k : Nat} {cl : List Value} {O : List Int} (h : Cur w g cap n k cl O) : ∀ v ∈ cl.take k, v.oneCell' = true := by
 intro v hv
 have h2 : v ∈ cl.take n := (List.take_sublist_take_left (Nat.le_of_lt h.kn)).subset hv
 rw [h.tk] at h2
 obtain ⟨z, _, rfl⟩ := List.mem_map.1 h2
 rfl
theorem Cur.of {w : World} {O : List Int} {ov : Value} {k : Nat} (h : w.ownsRow 0 3 1 ov O.length (O.map (Value.int .i64))) (hk : k < O.length) : ∃ g cap cl, ov = .slice (some ⟨g, 0, none⟩) O.length cap /\ Cur w g cap O.length k cl O := by
 obtain ⟨g, cap, cur, rfl, hg, hc1, hc2, hc3, hc4⟩ := row_form h (by omega)
 exact ⟨g, cap, cur.toList, rfl, hg, by simpa using hc3, hc4, rfl, hk, hc1, hc2⟩
section
variable {w : World} {p bm : Nat} {src ov : Value} {m mi : Int} {O : List Int}
theorem use_end {w w2 : World} {g cap n k : Nat} {cl : List Value} {i : Int} (h : Raw w p bm src (.slice (some ⟨g, 0, none⟩) n cap) m mi O) (hc : Cur w g cap n k cl O) (hk : O.idxOf i = k)
  (hg2 : w2.heap[g]? = some (.cells (splice cl 1 (cl.take k)).toArray 3 (0, 0))) (ho : Only (fun j => j = g) w w2) :
  Raw (w2.setCell ⟨g, 0, none⟩ (.int .i64 i)) p bm src (.slice (some ⟨g, 0, none⟩) n cap) m mi (mv O i) /\ Only (fun j => j = p \/ j = g) w (w2.setCell ⟨g, 0, none⟩ (.int .i64 i)) := by
 have hpg : p ≠ g := fun e => h.rp (by rw [e]; rfl)
 have hl := hc.len; have hkn := hc.kn; have hnc := hc.nc; have hcs := hc.cs
 have hsl : (splice cl 1 (cl.take k)).length = cap := by rw [length_splice _ _ _ (by rw [hcs]; omega)]; exact hl
 have hml : (mv O i).length = n := by
  unfold mv; rw [List.length_cons, hk, List.length_eraseIdx, hc.ln, if_pos hkn]; omega
 refine ⟨⟨?_, ?_, h.rp⟩, ?_⟩
 ·rw [Below.heap_setCell _ _ _ _ hpg, ho.block p h.lt hpg]; exact h.hp
 ·have := setCell_row (O := mv O i) (cap := cap) (n := n) hg2 (.int .i64 i) (by
   rw [front_row cl k n _ hkn (by omega), hc.tk]
   unfold mv
   rw [List.map_cons, hk]
   congr 1
   exact (map_eraseIdx' _ _ _).symm) hml hnc hc.cm hsl
  exact this
 ·exact (ho.mono (fun _ _ h => .inr h)).setCell (fun _ => .inr rfl) _
set_option maxHeartbeats 1000000 in
theorem use_yes (i : Int) (hl : O.length <= 5000) (h : Raw w p bm src ov m mi O) (hi : i ∈ O) :
  Calls Tryz.prog 152 #[.pointer (some ⟨p, 0, none⟩), .int .i64 i] w fun e w' => e = .returned (.tuple #[]) /\ ∃ ov', Raw w' p bm src ov' m mi (mv O i) /\ (∀ k, ov'.ownBlock = some k -> ov.ownBlock = some k \/ w.heap.size <= k) /\ Only (fun k => k = p \/ ov.ownBlock = some k) w w' := by
 obtain ⟨k, hk⟩ : ∃ k, O.idxOf i = k := ⟨_, rfl⟩
 have hlt : k < O.length := by rw [<- hk]; exact List.idxOf_lt_length_of_mem hi
 obtain ⟨g, cap, cl, rfl, hC⟩ := Cur.of h.hr hlt
 have HI := Lib.hid (index_yes (i := i) h.hr hl hlt hk)
 have c3 := h.c3
 have hnc := hC.nc; have hcm := hC.cm
 obtain ⟨n, hn⟩ : ∃ n, O.length = n := ⟨_, rfl⟩
 rw [hn] at hlt c3 hl HI hC h hnc ⊢
 have HC := Lib.hid hC
 have HH := Lib.hid h
 have HK := Lib.hid hk
 have hpg : ¬ p = g := fun e => h.rp (by rw [e]; rfl)
 clear hn hC h hk
 have hz : ¬ (k : Int) < 0 := by omega
 have hn1 : (1 : Int) <= (n : Int) := by omega
 have hkn : (k : Int) <= (n : Int) := by omega
 have hkc : (k : Int) <= (cap : Int) := by omega
 have hk0 : (0 : Int) <= (k : Int) := by omega
 have hncz : (n : Int) <= (cap : Int) := by omega
 unfold maxLen at hcm
 have HX : Hid (∀ w2, Hid (w2.heap[g]? = some (.cells (splice cl 1 (cl.take k)).toArray 3 (0, 0))) -> Hid (Only (fun j => j = g) w w2) -> w2.cell? ⟨p, 3, none⟩ = some (.slice (some ⟨g, 0, none⟩) n cap) /\ (∃ u, w2.cell? ⟨g, 0, none⟩ = some u) /\ w2.frozen? ⟨g, 0, none⟩ = false) := by
  intro w2 hg2 ho
  refine ⟨(ho.out.cell (p := ⟨p, 3, none⟩) HH.out.lt hpg).trans HH.out.c3, ?_, free_at hg2.out 0⟩
  have hsl : (splice cl 1 (cl.take k)).length = cap := by rw [length_splice _ _ _ (by rw [HC.out.cs, HC.out.len]; omega)]; exact HC.out.len
  exact ⟨(splice cl 1 (cl.take k))[0]'(by rw [hsl]; omega), by rw [cell_at hg2.out]; simp⟩
 have HO : Hid (∀ w2, Only (fun k => k = g) w.drew w2 -> Only (fun k => k = g) w w2) := fun w2 h => ⟨h.os, h.tape, h.output, h.size, h.block⟩
 rcases Decidable.em (cap = 1) with rfl | hcap
 ·obtain rfl : n = 1 := by omega
  obtain rfl : k = 0 := by omega
  go_enter Tryz.func152, Tryz.ntmps152
  go_wp2_with fail
  refine HI.out.mono ?_
  rintro e w1 ⟨rfl, rfl⟩
  go_wp2
  go_still_tail 11, (by kernel_rfl)
  with_reducible refine wpList_copy_only rfl (.tmp 32) (.tmp 38) 175 175 ?_ 3 Tryz.underlying175 ?_ (some ⟨g, 0, none⟩) (some ⟨g, 0, none⟩) 0 0 0 1 ?_ ?_ g 1 cl 3 ?_ (cl.take 0) ?_ ?_ ?_ HC.out.o1 ?_
  case refine_1 => rfl
  case refine_2 => kernel_rfl
  case refine_3 => rfl
  case refine_4 => rfl
  case refine_5 => exact HC.out.hg
  case refine_6 => rfl
  case refine_7 => intro h0; simp at h0
  case refine_8 => rw [HC.out.cs, HC.out.len]; omega
  intro w2 hg2 ho2
  obtain ⟨d3, ⟨u, d0⟩, df⟩ := HX.out w2 hg2 (HO.out w2 ho2.out)
  clear c3
  go_wp2
  go_end0
  obtain ⟨r1, r2⟩ := use_end HH.out HC.out HK.out hg2.out (HO.out w2 ho2.out)
  exact ⟨rfl, _, r1, fun j hj => .inl hj, r2.mono (fun j _ hj => hj.imp id (fun e => by rw [e]; rfl))⟩
 ·go_enter Tryz.func152, Tryz.ntmps152
  go_wp2_with fail
  refine HI.out.mono ?_
  rintro e w1 ⟨rfl, rfl⟩
  go_wp2
  go_still_tail 11, (by kernel_rfl)
  with_reducible refine wpList_copy_only rfl (.tmp 32) (.tmp 38) 175 175 ?_ 3 Tryz.underlying175 ?_ (some ⟨g, 1, none⟩) (some ⟨g, 0, none⟩) (n - 1) (cap - 1) k cap ?_ ?_ g 1 cl 3 ?_ (cl.take k) ?_ ?_ ?_ HC.out.o1 ?_
  case refine_1 => rfl
  case refine_2 => kernel_rfl
  case refine_3 => rfl
  case refine_4 => rfl
  case refine_5 => exact HC.out.hg
  case refine_6 => rw [HC.out.cs]; show k = min k (n - 1); omega
  case refine_7 => intro h0; rw [HC.out.cs] at h0; exact ⟨rfl, _, rfl, HC.out.sc⟩
  case refine_8 => rw [HC.out.cs, HC.out.len]; omega
  intro w2 hg2 ho2
  obtain ⟨d3, ⟨u, d0⟩, df⟩ := HX.out w2 hg2 (HO.out w2 ho2.out)
  clear c3
  go_wp2
  go_end0
  obtain ⟨r1, r2⟩ := use_end HH.out HC.out HK.out hg2.out (HO.out w2 ho2.out)
  exact ⟨rfl, _, r1, fun j hj => .inl hj, r2.mono (fun j _ hj => hj.imp id (fun e => by rw [e]; rfl))⟩
theorem Raw.pushed {w w2 : World} {p bm : Nat} {src ov v' : Value} {m mi i : Int} {O : List Int} {o : Obj} (h : Raw w p bm src ov m mi O) (hown : w2.ownsRow 0 3 1 v' (O.length + 1) (O.map (Value.int .i64) ++ [.int .i64 i])) (hg : (w.alloc o).grownBy w2 ov.ownBlock)
  (hwh : ∀ k, v'.ownBlock = some k -> ov.ownBlock = some k \/ (w.alloc o).heap.size <= k) :
  w2.cell? ⟨p, 3, none⟩ = some ov /\ w2.frozen? ⟨p, 3, none⟩ = false /\ Raw (w2.setCell ⟨p, 3, none⟩ v') p bm src v' m mi (O ++ [i]) /\ Only (fun k => k = p \/ ov.ownBlock = some k) w (w2.setCell ⟨p, 3, none⟩ v') := by
 have hlt := h.lt
 have hsz : (w.alloc o).heap.size = w.heap.size + 1 := by simp
 have hp2 : w2.heap[p]? = w.heap[p]? := (hg.block p (by omega) (fun e => h.rp e.symm)).trans (Below.heap_alloc _ _ _ hlt)
 have np : v'.ownBlock ≠ some p := fun e => by
  rcases hwh p e with h' | h'
  ·exact h.rp h'
  ·omega
 refine ⟨by rw [cell_at (hp2.trans h.hp)]; rfl, free_at (hp2.trans h.hp) 3, ⟨?_, ?_, np⟩, ?_⟩
 ·rw [heap_setCell_at (hp2.trans h.hp)]; rfl
 ·have e : (O ++ [i]).map (Value.int .i64) = O.map (Value.int .i64) ++ [.int .i64 i] := by simp
  rw [List.length_append, e]
  exact ownsRow_setCell_other hown (by simpa using np) _
 ·refine Only.setCell ?_ (fun _ => .inl rfl) _
  exact ((Only.refl _ w).alloc o).trans (T := fun k => some k = ov.ownBlock) ⟨hg.os, hg.tape, hg.output, hg.size, fun k hk hne => hg.block k hk hne⟩ (fun k _ hk => .inr hk.symm)
theorem idx_snoc {O : List Int} {i : Int} (h : i ∉ O) : (O ++ [i]).idxOf i = O.length := by
 rw [List.idxOf_append, if_neg h]; simp
theorem mv_snoc {O : List Int} {i : Int} (h : i ∉ O) : mv (O ++ [i]) i = mv O i := by
 unfold mv
 rw [idx_snoc h, List.idxOf_eq_length h, List.eraseIdx_of_length_le (Nat.le_refl _)]
 rw [List.eraseIdx_append_of_length_le (Nat.le_refl _)]; simp
set_option maxHeartbeats 1000000 in
theorem use_no (i : Int) (hl : O.length <= 5000) (h : Raw w p bm src ov m mi O) (hi : i ∉ O) :
  Calls Tryz.prog 152 #[.pointer (some ⟨p, 0, none⟩), .int .i64 i] w fun e w' => e = .returned (.tuple #[]) /\ ∃ ov', Raw w' p bm src ov' m mi (mv O i) /\ (∀ k, ov'.ownBlock = some k -> ov.ownBlock = some k \/ w.heap.size <= k) /\ Only (fun k => k = p \/ ov.ownBlock = some k) w w' := by
 obtain ⟨ao, cap0, hov⟩ := own_shape h.hr
 have HI := Lib.hid (index_no (i := i) h.hr hl hi)
 have c3 := h.c3
 have hle := h.lt
 obtain ⟨n, hn⟩ : ∃ n, O.length = n := ⟨_, rfl⟩
 have HR := Lib.hid h.hr
 have HPU := Lib.hid (fun w2 v' o => Raw.pushed (w2 := w2) (v' := v') (i := i) (o := o) h)
 have hn' := hn
 rw [hn] at hov hl
 have HN := Lib.hid hn; clear hn hn'
 have HH := Lib.hid h; clear h
 have HNI := Lib.hid hi; clear hi
 have HOV := Lib.hid hov
 rw [hov] at c3 HI
 clear hov
 obtain ⟨i0, hi, hz0, hz1, hz2⟩ := info_parts Tryz.infoI
 go_enter Tryz.func152, Tryz.ntmps152
 go_wp2_with fail
 refine HI.out.mono ?_
 rintro e w1 ⟨rfl, rfl⟩
 go_wp2_with (at_builtin; refine wpList_append_where _ rfl _ _ 175 rfl 0 3 i0 _ 1 8 Tryz.underlying175 hi hz0 hz1 hz2 rfl (by decide) _ n (O.map (Value.int .i64)) rfl ?c0 ⟨w.heap.size, 0, none⟩ 1 1 [.int .i64 i] rfl rfl ?c1 ?c2 ?c3 ?c4 ?c5 ?_)
 case c0 => have := HR.out.alloc (.cells #[.int .i64 i] 3); rw [HN.out, HOV.out] at this; exact this
 case c1 =>
  intro j u hj
  match j, hj with
  | 0, hj => simp at hj; subst hj; simp [Addr.add]
 case c2 => intro u hu; simp at hu; subst hu; rfl
 case c3 => unfold maxLen; omega
 case c4 => omega
 case c5 => exact Nat.zero_le _
 intro v' w2 hown hgrow hwh
 obtain ⟨g, cap, rfl⟩ := own_succ hown
 have hp := HPU.out w2 (.slice (some ⟨g, 0, none⟩) (n + 1) cap) (.cells #[.int .i64 i] 3) (by rw [HN.out]; exact hown) (by rw [HOV.out]; exact hgrow) (by intro k hk; rw [HOV.out]; have := hwh k hk; simpa using this)
 have hlo : (O ++ [i]).length = n + 1 := by have := HN.out; simp [this]
 have hcu := Cur.of (k := n) (by have := hp.2.2.1.hr; exact this) (by rw [hlo]; omega)
 rw [hlo] at hcu
 obtain ⟨g', cap', cl, hv, hC⟩ := hcu
 obtain ⟨rfl, rfl⟩ : g = g' /\ cap = cap' := by simpa using hv
 have hnc := hC.nc; have hcm := hC.cm
 have c3' : w2.cell? ⟨p, 3, none⟩ = some (.slice ao n cap0) := by rw [hp.1, HOV.out]
 have f3' := hp.2.1
 have HRA := Lib.hid hp.2.2.1
 have HOA := Lib.hid hp.2.2.2
 have HWH : Hid (∀ k, (Value.slice (some ⟨g, 0, none⟩) (n + 1) cap).ownBlock = some k -> ov.ownBlock = some k \/ w.heap.size <= k) := by
  intro k hk
  rcases hwh k hk with h | h
  ·left; rw [HOV.out]; exact h
  ·right; omega
 have HC := Lib.hid hC
 have hk : (O ++ [i]).idxOf i = n := by rw [idx_snoc HNI.out, HN.out]
 have HK := Lib.hid hk
 have hpg : ¬ p = g := fun e => hp.2.2.1.rp (by rw [e]; rfl)
 clear hp hlo hC hv hwh hgrow hown c3 hk
 have hz : ¬ (n : Int) < 0 := by omega
 have hn1 : (1 : Int) <= (n : Int) + 1 := by omega
 have hkn : (n : Int) <= (n : Int) + 1 := by omega
 have hkc : (n : Int) <= (cap : Int) := by omega
 have hk0 : (0 : Int) <= (n : Int) := by omega
 have hncz : ((n : Int) + 1) <= (cap : Int) := by omega
 unfold maxLen at hcm
 go_wp2
 generalize hWA : w2.setCell ⟨p, 3, none⟩ (.slice (some ⟨g, 0, none⟩) (n + 1) cap) = WA at *
 have cA := HRA.out.c3
 have HO : Hid (∀ w2, Only (fun k => k = g) WA.drew w2 -> Only (fun k => k = g) WA w2) := fun w2 h => ⟨h.os, h.tape, h.output, h.size, h.block⟩
 have HX : Hid (∀ w2, Hid (w2.heap[g]? = some (.cells (splice cl 1 (cl.take n)).toArray 3 (0, 0))) -> Hid (Only (fun j => j = g) WA w2) -> w2.cell? ⟨p, 3, none⟩ = some (.slice (some ⟨g, 0, none⟩) (n + 1) cap) /\ (∃ u, w2.cell? ⟨g, 0, none⟩ = some u) /\ w2.frozen? ⟨g, 0, none⟩ = false) := by
  intro w2 hg2 ho
  refine ⟨(ho.out.cell (p := ⟨p, 3, none⟩) HRA.out.lt hpg).trans HRA.out.c3, ?_, free_at hg2.out 0⟩
  have hsl : (splice cl 1 (cl.take n)).length = cap := by rw [length_splice _ _ _ (by rw [HC.out.cs, HC.out.len]; omega)]; exact HC.out.len
  exact ⟨(splice cl 1 (cl.take n))[0]'(by rw [hsl]; omega), by rw [cell_at hg2.out]; simp⟩
 have HWA := Lib.hid hWA
 clear c3' f3' hWA
 rcases Decidable.em (cap = 1) with rfl | hcap
 ·obtain rfl : n = 0 := by omega
  go_still_tail 11, (by kernel_rfl)
  with_reducible refine wpList_copy_only rfl (.tmp 32) (.tmp 38) 175 175 ?_ 3 Tryz.underlying175 ?_ (some ⟨g, 0, none⟩) (some ⟨g, 0, none⟩) 0 0 0 1 ?_ ?_ g 1 cl 3 ?_ (cl.take 0) ?_ ?_ ?_ HC.out.o1 ?_
  case refine_1 => rfl
  case refine_2 => kernel_rfl
  case refine_3 => rfl
  case refine_4 => rfl
  case refine_5 => exact HC.out.hg
  case refine_6 => rfl
  case refine_7 => intro h0; simp at h0
  case refine_8 => rw [HC.out.cs, HC.out.len]; omega
  intro w3 hg2 ho2
  obtain ⟨d3, ⟨u, d0⟩, df⟩ := HX.out w3 hg2 (HO.out w3 ho2.out)
  clear cA
  go_wp2
  go_end0
  obtain ⟨r1, r2⟩ := use_end HRA.out HC.out HK.out hg2.out (HO.out w3 ho2.out)
  rw [mv_snoc HNI.out] at r1
  refine ⟨rfl, _, r1, HWH.out, (HOA.out.trans r2 ?_)⟩
  rintro j hj (rfl | rfl)
  ·exact .inl rfl
  ·rcases HWH.out _ rfl with h | h
   ·exact .inr h
   ·have h' : w.heap.size <= j := h
    omega
 ·skip
  go_still_tail 11, (by kernel_rfl)
  with_reducible refine wpList_copy_only rfl (.tmp 32) (.tmp 38) 175 175 ?_ 3 Tryz.underlying175 ?_ (some ⟨g, 1, none⟩) (some ⟨g, 0, none⟩) (n + 1 - 1) (cap - 1) n cap ?_ ?_ g 1 cl 3 ?_ (cl.take n) ?_ ?_ ?_ HC.out.o1 ?_
  case refine_1 => rfl
  case refine_2 => kernel_rfl
  case refine_3 => rfl
  case refine_4 => rfl
  case refine_5 => exact HC.out.hg
  case refine_6 => rw [HC.out.cs]; show n = min n (n + 1 - 1); omega
  case refine_7 => intro h0; exact ⟨rfl, _, rfl, HC.out.sc⟩
  case refine_8 => rw [HC.out.cs, HC.out.len]; omega
  intro w3 hg2 ho2
  obtain ⟨d3, ⟨u, d0⟩, df⟩ := HX.out w3 hg2 (HO.out w3 ho2.out)
  clear cA
  go_wp2
  go_end0
  obtain ⟨r1, r2⟩ := use_end HRA.out HC.out HK.out hg2.out (HO.out w3 ho2.out)
  rw [mv_snoc HNI.out] at r1
  refine ⟨rfl, _, r1, HWH.out, (HOA.out.trans r2 ?_)⟩
  rintro j hj (rfl | rfl)
  ·exact .inl rfl
  ·rcases HWH.out _ rfl with h | h
   ·exact .inr h
   ·have h' : w.heap.size <= j := h
    omega
theorem use_any (i : Int) (hl : O.length <= 5000) (h : Raw w p bm src ov m mi O) :
  Calls Tryz.prog 152 #[.pointer (some ⟨p, 0, none⟩), .int .i64 i] w fun e w' => e = .returned (.tuple #[]) /\ ∃ ov', Raw w' p bm src ov' m mi (mv O i) /\ (∀ k, ov'.ownBlock = some k -> ov.ownBlock = some k \/ w.heap.size <= k) /\ Only (fun k => k = p \/ ov.ownBlock = some k) w w' := by
 by_cases hi : i ∈ O
 ·exact use_yes i hl h hi
 ·exact use_no i hl h hi
end
end Go.Proofs.YthambopnmhkeeaaGreat.Ca
