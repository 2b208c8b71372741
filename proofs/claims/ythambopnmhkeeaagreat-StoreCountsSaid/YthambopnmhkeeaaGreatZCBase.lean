/- A cache in memory: its five cells, its row of numbers, its map; what a call leaves alone. -/
import Derived.Test.YthambopnmhkeeaaGreatZCMap
import Derived.Test.YthambopnmhkeeaaGreatZBase
import Derived.Test.YthambopnmhkeeaaGreatZShelf
import Derived.Lib.Hide
import Derived.Lib.Slices
import Derived.Laws.CopyOwn
import Derived.StillTailTactics
import Derived.Deep.AppendLies

namespace Go.Proofs.YthambopnmhkeeaaGreat.Ca
open Go.RowKit
structure Raw (w : World) (p bm : Nat) (src ov : Value) (m mi : Int) (O : List Int) : Prop where
 hp : w.heap[p]? = some (.cells #[src, .int .i64 m, .map (some bm), ov, .int .i64 mi] 177 (0, 0))
 hr : w.ownsRow 0 3 1 ov O.length (O.map (Value.int .i64))
 rp : ov.ownBlock ≠ some p
section
variable {w w' : World} {p bm : Nat} {src ov : Value} {m mi : Int} {O : List Int}
theorem Raw.c0 (h : Raw w p bm src ov m mi O) : w.cell? ⟨p, 0, none⟩ = some src := by rw [cell_at h.hp]; rfl
theorem Raw.c1 (h : Raw w p bm src ov m mi O) : w.cell? ⟨p, 1, none⟩ = some (.int .i64 m) := by rw [cell_at h.hp]; rfl
theorem Raw.c2 (h : Raw w p bm src ov m mi O) : w.cell? ⟨p, 2, none⟩ = some (.map (some bm)) := by rw [cell_at h.hp]; rfl
theorem Raw.c3 (h : Raw w p bm src ov m mi O) : w.cell? ⟨p, 3, none⟩ = some ov := by rw [cell_at h.hp]; rfl
theorem Raw.c4 (h : Raw w p bm src ov m mi O) : w.cell? ⟨p, 4, none⟩ = some (.int .i64 mi) := by rw [cell_at h.hp]; rfl
theorem Raw.f (h : Raw w p bm src ov m mi O) (i : Nat) : w.frozen? ⟨p, i, none⟩ = false := free_at h.hp i
theorem Raw.lt (h : Raw w p bm src ov m mi O) : p < w.heap.size := (Array.getElem?_eq_some_iff.1 h.hp).1
theorem Raw.kept (h : Raw w p bm src ov m mi O) {T : Nat -> Prop} (ho : Only T w w') (h1 : ¬ T p) (h2 : ∀ k, ov.ownBlock = some k -> ¬ T k) : Raw w' p bm src ov m mi O := by
 refine ⟨by rw [ho.block p h.lt h1]; exact h.hp, ⟨h.hr.1, ?_⟩, h.rp⟩
 rcases h.hr.2 with hn | ⟨g, cap, cur, rfl, hb, hg, rest⟩
 ·exact .inl hn
 ·exact .inr ⟨g, cap, cur, rfl, hb, by rw [ho.block g (Array.getElem?_eq_some_iff.1 hg).1 (h2 g rfl)]; exact hg, rest⟩
theorem Raw.below (h : Raw w p bm src ov m mi O) (hb : Below w.heap.size w w') : Raw w' p bm src ov m mi O :=
 h.kept (Only.of_below (fun _ => False) hb (Nat.le_refl _)) id (fun _ _ => id)
end
structure CB (S : Nat -> Prop) (w : World) (p bm : Nat) (src ov : Value) (C : CS) : Prop where
 ok : C.Ok
 raw : Raw w p bm src ov (C.most : Int) (C.misses : Int) (keys C.L)
 map : MapL w bm C.L
 bp : bm ≠ p
 rb : ov.ownBlock ≠ some bm
 sp : S p
 sb : S bm
 sr : ∀ k, ov.ownBlock = some k -> S k
 lt : ∀ k, S k -> k < w.heap.size
def Cch (S : Nat -> Prop) (w : World) (p : Nat) (src : Value) (C : CS) : Prop := ∃ bm ov, CB S w p bm src ov C
theorem CB.kept {S T : Nat -> Prop} {w w' : World} {p bm : Nat} {src ov : Value} {C : CS} (h : CB S w p bm src ov C) (ho : Only T w w') (hT : ∀ k, S k -> ¬ T k) : CB S w' p bm src ov C :=
 ⟨h.ok, h.raw.kept ho (hT p h.sp) (fun k hk => hT k (h.sr k hk)), h.map.kept (ho.block bm h.map.lt (hT bm h.sb)), h.bp, h.rb, h.sp, h.sb, h.sr, fun k hk => Nat.lt_of_lt_of_le (h.lt k hk) ho.size⟩
theorem Cch.kept {S T : Nat -> Prop} {w w' : World} {p : Nat} {src : Value} {C : CS} (h : Cch S w p src C) (ho : Only T w w') (hT : ∀ k, S k -> ¬ T k) : Cch S w' p src C := by
 obtain ⟨bm, ov, h⟩ := h; exact ⟨bm, ov, h.kept ho hT⟩
theorem Cch.below {S : Nat -> Prop} {w w' : World} {p : Nat} {src : Value} {C : CS} (h : Cch S w p src C) (hb : Below w.heap.size w w') : Cch S w' p src C :=
 h.kept (Only.of_below (fun _ => False) hb (Nat.le_refl _)) (fun _ _ => id)
theorem Cch.ok {S : Nat -> Prop} {w : World} {p : Nat} {src : Value} {C : CS} (h : Cch S w p src C) : C.Ok := by obtain ⟨bm, ov, h⟩ := h; exact h.ok
theorem Cch.lt {S : Nat -> Prop} {w : World} {p : Nat} {src : Value} {C : CS} (h : Cch S w p src C) : ∀ k, S k -> k < w.heap.size := by obtain ⟨bm, ov, h⟩ := h; exact h.lt
def CLeaves (S : Nat -> Prop) (w w' : World) (p : Nat) (src : Value) (C' : CS) : Prop := ∃ S' : Nat -> Prop, (∀ k, S' k -> S k \/ w.heap.size <= k) /\ Cch S' w' p src C' /\ Only S w w'
def mv (O : List Int) (i : Int) : List Int := i :: O.eraseIdx (O.idxOf i)
theorem mv_old {L : List Kp} {i : Int} {k : Nat} {x y : Kp} (h : fx L i = some (k, x)) (hy : y.key = i) : mv (keys L) i = keys (y :: L.eraseIdx k) := by
 unfold mv; rw [idx_key h, <- keys_erase]; show _ = y.key :: _; rw [hy]; rfl
theorem mv_new {L : List Kp} {i : Int} {y : Kp} (h : fx L i = none) (hy : y.key = i) : mv (keys L) i = keys (y :: L) := by
 unfold mv
 rw [List.idxOf_eq_length (fx_none_iff.1 h), List.eraseIdx_of_length_le (Nat.le_refl _)]
 show _ = y.key :: _; rw [hy]; rfl
theorem row_cells {w : World} {O : List Int} {g cap : Nat} (h : w.ownsRow 0 3 1 (.slice (some ⟨g, 0, none⟩) O.length cap) O.length (O.map (Value.int .i64))) : ∀ j, j < O.length -> w.cell? ⟨g, 0 + j, none⟩ = some (.int .i64 (O.getD j 0)) := by
 intro j hj
 rw [Nat.zero_add, World.ownsRow.cellAt h j (by omega), List.getElem?_map, List.getElem?_eq_getElem hj, List.getD_eq_getElem?_getD, List.getElem?_eq_getElem hj]
 rfl
theorem row_form {w : World} {O : List Int} {ov : Value} (h : w.ownsRow 0 3 1 ov O.length (O.map (Value.int .i64))) (h0 : 0 < O.length) : ∃ g cap cur, ov = .slice (some ⟨g, 0, none⟩) O.length cap /\ w.heap[g]? = some (.cells cur 3 (0, 0)) /\ O.length <= cap /\ cap <= maxLen /\ cur.size = cap /\ cur.toList.take O.length = O.map (Value.int .i64) := by
 rcases h.2 with ⟨_, h1⟩ | ⟨g, cap, cur, h1, h2, h3, h4, h5, h6, h7⟩
 ·omega
 ·exact ⟨g, cap, cur, h1, h3, h4, h5, by omega, by simpa using h7⟩
theorem before_idx {O : List Int} {i : Int} {j : Nat} (h : j < O.idxOf i) (hj : j < O.length) : O[j] ≠ i := by
 induction O generalizing j with
 | nil => cases hj
 | cons x r ih =>
  rw [List.idxOf_cons] at h
  by_cases e : x = i
  ·rw [beq_iff_eq.2 e] at h; simp at h
  ·rw [beq_eq_false_iff_ne.2 e] at h
   cases j with
   | zero => simpa using e
   | succ j => simpa using ih (by simpa using h) (by simpa using hj)
theorem index_yes {w : World} {O : List Int} {ov : Value} {i : Int} {k : Nat} (h : w.ownsRow 0 3 1 ov O.length (O.map (Value.int .i64))) (hl : O.length <= 5000) (hk : k < O.length) (e : O.idxOf i = k) :
  Calls Tryz.prog 189 #[ov, .int .i64 i] w fun e w' => e = .returned (.int .i64 (k : Int)) /\ w = w' := by
 obtain ⟨g, cap, cur, rfl, _⟩ := row_form h (by omega)
 have hgk : O.getD k 0 = i := by
  have h1 : O.idxOf i < O.length := by rw [e]; exact hk
  have := List.getElem_idxOf h1
  rw [List.getD_eq_getElem?_getD, List.getElem?_eq_getElem hk]
  simpa [e] using this
 have hne : ∀ j, j < k -> O.getD j 0 ≠ i := by
  intro j hj he
  rw [List.getD_eq_getElem?_getD, List.getElem?_eq_getElem (by omega)] at he
  exact before_idx (show j < O.idxOf i by omega) (by omega) (by simpa using he)
 refine (Tryz.slices_Index_int g 0 O.length cap O i w (Nat.le_refl _) (by omega) (row_cells h)).mono fun e w' ⟨he, hw⟩ => ⟨?_, hw.symm⟩
 rw [he, Lib.idxOf_hit O O.length k i hk (Nat.le_refl _) hgk hne]
theorem index_no {w : World} {O : List Int} {ov : Value} {i : Int} (h : w.ownsRow 0 3 1 ov O.length (O.map (Value.int .i64))) (hl : O.length <= 5000) (hk : i ∉ O) :
  Calls Tryz.prog 189 #[ov, .int .i64 i] w fun e w' => e = .returned (.int .i64 (-1)) /\ w = w' := by
 by_cases h0 : 0 < O.length
 ·obtain ⟨g, cap, cur, rfl, _⟩ := row_form h h0
  refine (Tryz.slices_Index_int g 0 O.length cap O i w (Nat.le_refl _) (by omega) (row_cells h)).mono fun e w' ⟨he, hw⟩ => ⟨?_, hw.symm⟩
  rw [he, Lib.idxOf_miss O O.length i (fun j hj he' => hk ?_)]
  rw [List.getD_eq_getElem?_getD, List.getElem?_eq_getElem hj] at he'
  rw [<- he']; exact List.getElem_mem hj
 ·obtain ⟨ao, cap, rfl⟩ := own_shape h
  have e : O.length = 0 := by omega
  rw [e]
  exact (Tryz.slices_Index_int_empty ao cap i w).mono fun e w' ⟨he, hw⟩ => ⟨he, hw.symm⟩
end Go.Proofs.YthambopnmhkeeaaGreat.Ca
/- The map of a cache at the operations of a walk: a look-up, a store, a deletion. -/
namespace Go.Proofs.YthambopnmhkeeaaGreat.Ca
open Go.RowKit Go.Maps
theorem only_grown {w w' : World} {b : Nat} (h : w.grownBy w' (some b)) : Only (fun k => k = b) w w' :=
 ⟨h.os, h.tape, h.output, h.size, fun k hk hne => h.block k hk (fun e => hne (by simpa using e))⟩
section
variable (w : World) {ops : Array Oper} {rest : List Oper} {o : Oper} {a : Act} {Q : Exit -> Act -> World -> Prop} {b : Nat} {L : List Kp} {i : Int}
theorem wpList_look_yes (hg : o.guard = none) (m x : Operand) (hop : o.op = Op.lookup 174 m x true) (hm : a.eval m = .map (some b)) (hx : a.eval x = .int .i64 i) (h : MapL w b L) (hn : (keys L).Nodup) (hw : Wf L) (k : Nat) (y : Kp) (hf : fx L i = some (k, y))
  (hK : wpList Tryz.prog ops Q rest (a.put o.dst (.tuple #[.agg #[.string y.data, .bool y.dirty, .int .i64 (y.pins : Int)], .bool true])) w) : wpList Tryz.prog ops Q (o :: rest) a w := by
 obtain ⟨hk, h1, h2, _⟩ := fx_some hf
 have hi : -9223372036854775808 <= i /\ i <= 9223372036854775807 := by rw [<- h2]; exact hw y (fx_mem hf)
 refine wpList_lookup_own_ok w hg m x 174 hop 3 180 klaw Tryz.underlying174 stE (zeroSt w) _ [] (stE_mk ⟨#[]⟩ false 0) b L.length (toD L) hm h _ (kl i) hx (keyI hi) (fun v ps hv => ?_)
 rw [atKey_yes hn hw hf] at hv
 rw [stE_dat hv, has_yes hf]
 exact hK
theorem wpList_look_no (hg : o.guard = none) (m x : Operand) (hop : o.op = Op.lookup 174 m x true) (hm : a.eval m = .map (some b)) (hx : a.eval x = .int .i64 i) (h : MapL w b L) (hi : -9223372036854775808 <= i /\ i <= 9223372036854775807) (hf : fx L i = none)
  (hK : wpList Tryz.prog ops Q rest (a.put o.dst (.tuple #[.agg #[.string ⟨#[]⟩, .bool false, .int .i64 0], .bool false])) w) : wpList Tryz.prog ops Q (o :: rest) a w := by
 refine wpList_lookup_own_ok w hg m x 174 hop 3 180 klaw Tryz.underlying174 stE (zeroSt w) _ [] (stE_mk ⟨#[]⟩ false 0) b L.length (toD L) hm h _ (kl i) hx (keyI hi) (fun v ps hv => ?_)
 rw [atKey_no hf] at hv
 rw [stE_zero hv, has_no hf]
 exact hK
theorem wpList_has_yes (hg : o.guard = none) (m x : Operand) (hop : o.op = Op.lookup 174 m x false) (hm : a.eval m = .map (some b)) (hx : a.eval x = .int .i64 i) (h : MapL w b L) (hn : (keys L).Nodup) (hw : Wf L) (k : Nat) (y : Kp) (hf : fx L i = some (k, y))
  (hK : wpList Tryz.prog ops Q rest (a.put o.dst (.agg #[.string y.data, .bool y.dirty, .int .i64 (y.pins : Int)])) w) : wpList Tryz.prog ops Q (o :: rest) a w := by
 obtain ⟨hk, h1, h2, _⟩ := fx_some hf
 have hi : -9223372036854775808 <= i /\ i <= 9223372036854775807 := by rw [<- h2]; exact hw y (fx_mem hf)
 refine wpList_plain hg fun K' hK' => ?_
 obtain ⟨v, ps, hrun, hv⟩ := World.ownsMap.lookup h klaw Tryz.underlying174 (zeroSt w) (stE_mk ⟨#[]⟩ false 0) (keyI hi)
 rw [atKey_yes hn hw hf] at hv
 rw [stE_dat hv] at hrun
 unfold Oper.wp
 simp [execOp, hop, hm, hx, hrun, Result.andThen]
 exact hK' _ _ hK
theorem wpList_has_no (hg : o.guard = none) (m x : Operand) (hop : o.op = Op.lookup 174 m x false) (hm : a.eval m = .map (some b)) (hx : a.eval x = .int .i64 i) (h : MapL w b L) (hi : -9223372036854775808 <= i /\ i <= 9223372036854775807) (hf : fx L i = none)
  (hK : wpList Tryz.prog ops Q rest (a.put o.dst (.agg #[.string ⟨#[]⟩, .bool false, .int .i64 0])) w) : wpList Tryz.prog ops Q (o :: rest) a w := by
 refine wpList_plain hg fun K' hK' => ?_
 obtain ⟨v, ps, hrun, hv⟩ := World.ownsMap.lookup h klaw Tryz.underlying174 (zeroSt w) (stE_mk ⟨#[]⟩ false 0) (keyI hi)
 rw [atKey_no hf] at hv
 rw [stE_zero hv] at hrun
 unfold Oper.wp
 simp [execOp, hop, hm, hx, hrun, Result.andThen]
 exact hK' _ _ hK
theorem wpList_upd (hg : o.guard = none) (m x v : Operand) (hop : o.op = Op.mapUpdate 174 m x v) (hm : a.eval m = .map (some b)) (hx : a.eval x = .int .i64 i) (h : MapL w b L) (hl : L.length <= 5000) (hi : -9223372036854775808 <= i /\ i <= 9223372036854775807) (y : Kp) (hv : a.eval v = .agg #[.string y.data, .bool y.dirty, .int .i64 (y.pins : Int)]) (M : List Kp)
  (hput : (toD L).put (kl i) y.dat = toD M) (hK : ∀ w', Hid (MapL w' b M) -> Hid (Only (fun k => k = b) w w') -> wpList Tryz.prog ops Q rest (a.put o.dst undef) w') : wpList Tryz.prog ops Q (o :: rest) a w := by
 refine wpList_mapUpdate_own w hg m x v 174 hop 3 180 klaw Tryz.underlying174 stE b L.length (toD L) hm h (by unfold maxLen; omega) _ _ (kl i) hx hv (keyI hi) y.dat [] (stE_val y) (fun w' hown hgrow => ?_)
 rw [hput] at hown
 exact hK w' (show MapL _ _ _ from MapL.of hown) (show Only _ _ _ from only_grown hgrow)
end
end Go.Proofs.YthambopnmhkeeaaGreat.Ca
/- What Misses, Pin and Unpin answer and leave. -/
namespace Go.Proofs.YthambopnmhkeeaaGreat.Ca
open Go.RowKit
theorem MapL.below {w w' : World} {b : Nat} {L : List Kp} (h : MapL w b L) (hb : Below w.heap.size w w') : MapL w' b L := h.kept (hb.block b h.lt)
section
variable {S : Nat -> Prop} {w w' : World} {p bm : Nat} {src ov : Value} {C C' : CS}
theorem CB.wf (h : CB S w p bm src ov C) : Wf C.L := h.ok.wf
theorem CB.turned (h : CB S w p bm src ov C) (ho : Only (fun k => k = bm) w w') (hm : MapL w' bm C'.L) (ok : C'.Ok) (hk : keys C'.L = keys C.L) (h1 : C'.most = C.most) (h2 : C'.misses = C.misses) : CB S w' p bm src ov C' := by
 have hr := h.raw.kept ho (fun e => h.bp e.symm) (fun k hk e => h.rb (e ▸ hk))
 refine ⟨ok, ?_, hm, h.bp, h.rb, h.sp, h.sb, h.sr, fun k hk => Nat.lt_of_lt_of_le (h.lt k hk) ho.size⟩
 rw [hk, h1, h2]; exact hr
theorem CB.below (h : CB S w p bm src ov C) (hb : Below w.heap.size w w') : CB S w' p bm src ov C := h.kept (Only.of_below (fun _ => False) hb (Nat.le_refl _)) (fun _ _ => id)
theorem st_new (w : World) (s : ByteArray) (d : Bool) (n : Int) : ∃ W, w.alloc (.cells #[.string s, .bool d, .int .i64 n] 180) = W /\ W.cell? ⟨w.heap.size, 0, none⟩ = some (.string s) /\ W.cell? ⟨w.heap.size, 1, none⟩ = some (.bool d) /\ W.cell? ⟨w.heap.size, 2, none⟩ = some (.int .i64 n) /\ Below w.heap.size w W :=
 ⟨_, rfl, by rw [World.cell?_alloc_mark]; rfl, by rw [World.cell?_alloc_mark]; rfl, by rw [World.cell?_alloc_mark]; rfl, (Below.refl _ _).alloc (Nat.le_refl _) _⟩
theorem CB.leaves (h : CB S w' p bm src ov C') (ho : Only S w w') : CLeaves S w w' p src C' := ⟨S, fun _ => .inl, ⟨bm, ov, h⟩, ho⟩
end
end Go.Proofs.YthambopnmhkeeaaGreat.Ca
/- Rows of numbers that the library rewrites: slices.Delete, slices.DeleteFunc, slices.Clone. -/
namespace Go.Proofs.YthambopnmhkeeaaGreat.Ca
open Go.RowKit Go.Sort
theorem putRow_own {w : World} {g cap n : Nat} {xs : List Value} (h : w.ownsRow 0 3 1 (.slice (some ⟨g, 0, none⟩) n cap) n xs) (q : Nat) (d : List Int) (hd : d.length = n) (m : Nat) (hm : m <= n) :
  (putRow (Value.int .i64) (Sort.ahead w q) g 0 d.toArray).ownsRow 0 3 1 (.slice (some ⟨g, 0, none⟩) m cap) m ((d.take m).map (Value.int .i64)) /\ Only (fun k => k = g) w (putRow (Value.int .i64) (Sort.ahead w q) g 0 d.toArray) := by
 have hlen : ((d.take m).map (Value.int .i64)).length = m * 1 := by simp; omega
 rcases h.2 with ⟨hv, _⟩ | ⟨g', cap', cur, hv, hb, hg, hc1, hc2, hc3, hc4⟩
 ·cases hv
 ·obtain ⟨rfl, rfl⟩ : g = g' /\ cap = cap' := by simpa using hv
  refine ⟨⟨hlen, .inr ⟨g, cap, putCells (Value.int .i64) 0 d.toArray cur, rfl, Nat.zero_le _, ?_, by omega, hc2, by simp [putCells, hc3], ?_⟩⟩, ?_⟩
  ·simp only [putRow, mapBlock, Array.getElem?_modify, if_pos]
   show (w.heap[g]?).map _ = _
   rw [hg]; rfl
  ·apply List.ext_getElem
   ·rw [hlen, List.length_take, Array.length_toList]
    simp [putCells, hc3]; omega
   ·intro i h1 h2
    have hi : i < m := by simp at h2; omega
    have hid : i < d.length := by omega
    simp only [List.getElem_take, Array.getElem_toList, List.getElem_map, putCells, Array.getElem_mapIdx]
    rw [if_pos ⟨Nat.zero_le _, by simp; omega⟩]
    simp [hid]
  ·refine ⟨rfl, rfl, rfl, by simp [putRow, mapBlock], fun k hk hne => ?_⟩
   show ((Sort.ahead w q).heap.modify g _)[k]? = w.heap[k]?
   rw [Array.getElem?_modify, if_neg (fun e => hne e.symm)]; rfl
theorem holds_row {w : World} {O : List Int} {g cap : Nat} (h : w.ownsRow 0 3 1 (.slice (some ⟨g, 0, none⟩) O.length cap) O.length (O.map (Value.int .i64))) : Holds (Value.int .i64) w g 0 O.toArray := by
 intro j hj
 have hj' : j < O.length := by simpa using hj
 refine ⟨?_, World.ownsRow.frozenAt h _⟩
 have := row_cells h j hj'
 rw [this]
 simp [List.getD_eq_getElem?_getD, hj']
theorem row_caps {w : World} {n g cap : Nat} {xs : List Value} (h : w.ownsRow 0 3 1 (.slice (some ⟨g, 0, none⟩) n cap) n xs) : n <= cap /\ cap <= 9223372036854775807 := by
 rcases h.2 with ⟨hv, _⟩ | ⟨g', cap', cur, hv, hb, hg, hc1, hc2, hc3, hc4⟩
 ·cases hv
 ·obtain ⟨rfl, rfl⟩ : g = g' /\ cap = cap' := by simpa using hv
  unfold maxLen at hc2
  exact ⟨hc1, by omega⟩
theorem delete_any {w : World} {O : List Int} {g cap k : Nat} (h : w.ownsRow 0 3 1 (.slice (some ⟨g, 0, none⟩) O.length cap) O.length (O.map (Value.int .i64))) (hk : k < O.length) :
  Calls Tryz.prog 212 #[.slice (some ⟨g, 0, none⟩) O.length cap, .int .i64 (k : Int), .int .i64 ((k : Int) + 1)] w fun e w' => e = .returned (.slice (some ⟨g, 0, none⟩) (O.length - 1) cap) /\
   w'.ownsRow 0 3 1 (.slice (some ⟨g, 0, none⟩) (O.length - 1) cap) (O.length - 1) ((O.eraseIdx k).map (Value.int .i64)) /\ Only (fun k => k = g) w w' := by
 obtain ⟨hc1, hc2⟩ := row_caps h
 have := Tryz.slices_Delete_int g 0 cap k (k + 1) O w (holds_row h) hc1 hc2 (by omega) (by omega)
 rw [Int.natCast_add] at this
 refine this.mono fun e w' ⟨he, q, hw⟩ => ?_
 rw [show k + 1 - k = 1 by omega] at he hw
 have hd : (O.take k ++ O.drop (k + 1) ++ List.replicate 1 0).length = O.length := by simp; omega
 have hp := putRow_own h q _ hd (O.length - 1) (by omega)
 rw [<- hw] at hp
 have e2 : (O.take k ++ O.drop (k + 1) ++ List.replicate 1 0).take (O.length - 1) = O.eraseIdx k := by
  rw [List.eraseIdx_eq_take_drop_succ, List.take_append_of_le_length (by simp; omega), List.take_of_length_le (by simp; omega)]
 rw [e2] at hp
 exact ⟨he, hp⟩
end Go.Proofs.YthambopnmhkeeaaGreat.Ca
/- What Clean leaves. -/
set_option maxRecDepth 100000
namespace Go.Proofs.YthambopnmhkeeaaGreat.Ca
open Go.RowKit
def Kp.cl (x : Kp) : Kp := { x with dirty := false }
def clT (L : List Kp) (j : Nat) : List Kp := (L.take j).map Kp.cl ++ L.drop j
theorem clT_full (L : List Kp) : clT L L.length = L.map Kp.cl := by simp [clT]
theorem clT_len (L : List Kp) (j : Nat) : (clT L j).length = L.length := by simp [clT]; omega
theorem clT_keys (L : List Kp) (j : Nat) : keys (clT L j) = keys L := by
 unfold clT keys
 rw [List.map_append, List.map_map, show (fun x : Kp => x.key) ∘ Kp.cl = fun x => x.key from rfl, <- List.map_append, List.take_append_drop]
theorem clT_get (L : List Kp) (j : Nat) (h : j < L.length) : (clT L j)[j]'(by rw [clT_len]; exact h) = L[j] := by
 have hl : ((L.take j).map Kp.cl).length = j := by simp; omega
 have : (clT L j)[j]? = some L[j] := by
  unfold clT
  rw [List.getElem?_append_right (by omega), hl, Nat.sub_self, List.getElem?_drop, Nat.add_zero, List.getElem?_eq_getElem h]
 exact (List.getElem?_eq_some_iff.1 this).2
theorem clT_succ (L : List Kp) (j : Nat) (h : j < L.length) : (clT L j).set j L[j].cl = clT L (j + 1) := by
 have hl : ((L.take j).map Kp.cl).length = j := by simp; omega
 unfold clT
 rw [List.set_append_right _ _ (by omega), hl, Nat.sub_self, List.drop_eq_getElem_cons h, List.set_cons_zero, List.take_succ_eq_append_getElem h, List.map_append]
 simp
theorem clT_ok {C : CS} (ok : C.Ok) (j : Nat) : ({ C with L := clT C.L j } : CS).Ok := by
 have hm : ∀ z ∈ clT C.L j, z ∈ C.L \/ ∃ x ∈ C.L, z = x.cl := by
  intro z hz
  rcases List.mem_append.1 hz with hz | hz
  ·obtain ⟨x, hx, rfl⟩ := List.mem_map.1 hz
   exact .inr ⟨x, List.mem_of_mem_take hx, rfl⟩
  ·exact .inl (List.mem_of_mem_drop hz)
 refine ⟨by show (keys (clT C.L j)).Nodup; rw [clT_keys]; exact ok.nodup, by show (clT C.L j).length <= _; rw [clT_len]; exact ok.len, ok.m0, ok.m1, ok.ms, ?_, ?_, ?_⟩
 ·intro z hz; rcases hm z hz with h | ⟨x, hx, rfl⟩
  ·exact ok.wf z h
  ·exact ok.wf x hx
 ·intro z hz; rcases hm z hz with h | ⟨x, hx, rfl⟩
  ·exact ok.ds z h
  ·exact ok.ds x hx
 ·intro z hz; rcases hm z hz with h | ⟨x, hx, rfl⟩
  ·exact ok.pn z h
  ·exact ok.pn x hx
section
variable {S : Nat -> Prop} {w w' : World} {p bm : Nat} {src ov : Value} {C C' : CS}
theorem keys_len (L : List Kp) : (keys L).length = L.length := by simp [keys]
theorem keys_getD (L : List Kp) (j : Nat) (h : j < L.length) : (keys L).getD j 0 = L[j].key := by
 unfold keys; rw [List.getD_eq_getElem?_getD, List.getElem?_map, List.getElem?_eq_getElem h]; rfl
set_option maxHeartbeats 1000000 in
theorem clean_any (h : Cch S w p src C) :
  Calls Tryz.prog 102 #[.pointer (some ⟨p, 0, none⟩)] w fun e w' => e = .returned (.tuple #[]) /\ CLeaves S w w' p src C.clean := by
 obtain ⟨bm, ov, h⟩ := h
 obtain ⟨ao, cap, hov⟩ := own_shape h.raw.hr
 rw [keys_len] at hov
 subst hov
 obtain ⟨n, hn⟩ : ∃ n, C.L.length = n := ⟨_, rfl⟩
 have c3 := h.raw.c3
 have hl : C.L.length <= 1024 := by have := h.ok.len; have := h.ok.m1; omega
 have HL := Lib.hid hn
 rw [hn] at hl c3 h
 have HB0 := Lib.hid h
 have HOK := Lib.hid h.ok
 have hlt := h.raw.lt
 have HR : Hid (∀ (j : Nat) (W : World) (D : List Kp), j < n -> keys D = keys C.L -> W.ownsRow 0 3 1 (.slice ao n cap) (keys D).length ((keys D).map (Value.int .i64)) -> ∃ g, ao = some ⟨g, 0, none⟩ /\ W.cell? ⟨g, j, none⟩ = some (.int .i64 ((keys C.L).getD j 0))) := by
  intro j W D hj hD hW
  rw [hD] at hW
  have hlk : (keys C.L).length = n := by rw [keys_len]; exact HL.out
  obtain ⟨g, cap', cur, hv, _⟩ := row_form hW (by omega)
  rw [hlk] at hv
  obtain ⟨rfl, rfl⟩ : ao = some ⟨g, 0, none⟩ /\ cap = cap' := by simpa using hv
  have := row_cells (w := W) (O := keys C.L) (g := g) (cap := cap) (by rw [hlk] at hW ⊢; exact hW) j (by omega)
  rw [Nat.zero_add] at this
  exact ⟨g, rfl, this⟩
 clear h hn
 go_enter Tryz.func102, Tryz.ntmps102
 go_wp2
 go_loopw [3, 4, 10] (fun _ _ s wr => ∃ j : Nat, j <= n /\ s = .int .i64 (j : Int) /\ Hid (CB S wr p bm src (.slice ao n cap) { C with L := clT C.L j }) /\ Hid (Only S w wr)) (fun _ _ s _ => n - (intOf s).toNat)
 case atStart => exact ⟨0, Nat.zero_le _, rfl, HB0.out, (show Only _ _ _ from Only.refl _ _)⟩
 case round =>
  obtain ⟨j, hj, rfl, HB, HO⟩ := hrel
  by_cases hlt' : j < n
  ·have hjn : (j : Int) < (n : Int) := by omega
   have hj0 : (0 : Int) <= (j : Int) := by omega
   have hjl : j < C.L.length := by rw [HL.out]; exact hlt'
   obtain ⟨g, rfl, cj⟩ := HR.out j wr (clT C.L j) hlt' (clT_keys _ _) HB.out.raw.hr
   rw [keys_getD _ _ hjl] at cj
   have c2 := HB.out.raw.c2
   have hf : fx (clT C.L j) C.L[j].key = some (j, C.L[j]) := by
    have := fx_of (L := clT C.L j) (k := j) (by rw [clT_keys]; exact HOK.out.nodup) (by rw [clT_len]; exact hjl)
    rw [clT_get _ _ hjl] at this
    exact this
   have HF := Lib.hid hf
   have HI := Lib.hid (HOK.out.wf C.L[j] (List.getElem_mem hjl))
   have HP : Hid ((toD (clT C.L j)).put (kl C.L[j].key) C.L[j].cl.dat = toD (clT C.L (j + 1))) := by
    have := toD_put_set (y := C.L[j].cl) (by rw [clT_keys]; exact HOK.out.nodup) (clT_ok HOK.out j).wf hf rfl
    rwa [clT_succ _ _ hjl] at this
   have HLl : Hid ((clT C.L j).length <= 5000) := by show _ <= _; rw [clT_len, HL.out]; omega
   have HPL := HB.out.raw.lt
   clear hf
   generalize hy : C.L[j] = y at *
   clear hy hjl
   obtain ⟨i, s, d, m⟩ := y
   simp only at cj HI HF HP
   go_wp2_with (at_lookup; refine wpList_has_yes _ rfl _ _ rfl rfl rfl HB.out.map HB.out.ok.nodup HB.out.ok.wf j _ HF.out ?_)
   obtain ⟨W, hW, l0, l1, l2, hb⟩ := st_new wr s false (m : Int)
   rw [hW]
   clear hW
   have c2' := (hb.cell (p := ⟨p, 2, none⟩) HPL).trans c2
   have HB2 := Lib.hid (HB.out.below hb.drew)
   have HOn : Hid (Only (fun _ => False) wr W.drew) := Only.of_below _ hb.drew (Nat.le_refl _)
   clear hb c2
   go_still_tail 6, (by kernel_rfl)
   refine wpList_upd _ ?ug (.tmp 24) (.tmp 25) (.tmp 26) ?uh ?um ?ux HB2.out.map HLl.out HI.out _ ?uv _ HP.out ?_
   case ug => rfl
   case uh => rfl
   case um => rfl
   case ux => rfl
   case uv => rfl
   intro w2 hm2 ho2
   have HC := Lib.hid (HB2.out.turned (C' := { C with L := clT C.L (j + 1) }) ho2.out hm2.out (clT_ok HOK.out _) (by show keys (clT C.L (j + 1)) = keys (clT C.L j); rw [clT_keys, clT_keys]) rfl rfl)
   have HO2 : Hid (Only S w w2) := HO.out.trans ((HOn.out.mono (fun _ _ f => f.elim)).trans ho2.out (fun j _ e => by subst e; exact HB.out.sb)) (fun _ _ h => h)
   clear hm2 ho2
   go_wp2
   go_roundw
   case rel => exact ⟨j + 1, by omega, by go_num, HC.out, HO2.out⟩
   case measure => simp [intOf]; omega
  ·obtain rfl : j = n := by omega
   have hjn : ¬ (j : Int) < (j : Int) := by omega
   go_wp2
   go_end0
   have e : clT C.L j = C.clean.L := by rw [<- HL.out, clT_full]; rfl
   have hB := HB.out
   rw [e] at hB
   exact ⟨rfl, hB.leaves HO.out⟩
end
end Go.Proofs.YthambopnmhkeeaaGreat.Ca
