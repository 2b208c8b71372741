/- A cache in memory: its five cells, its row of numbers, its map; what a call leaves alone. -/
import Derived.Test.YteeoglfgilabaaaZCMap
import Derived.Test.YteeoglfgilabaaaZBase
import Derived.Test.YteeoglfgilabaaaZShelf
import Derived.Lib.Hide
import Derived.Lib.Slices
import Derived.Laws.CopyOwn
import Derived.StillTailTactics
import Derived.Deep.AppendLies

namespace Go.Proofs.Yteeoglfgilabaaa
open Go.RowKit

/-- The cells, and the row of numbers, used last first. -/
structure Raw (w : World) (p bm : Nat) (src ov : Value) (m mi : Int) (O : List Int) : Prop where
  hp : w.heap[p]? = some (.cells #[src, .int .i64 m, .map (some bm), ov, .int .i64 mi] 66 (0, 0))
  hr : w.ownsRow 0 3 1 ov O.length (O.map (Value.int .i64))
  rp : ov.ownBlock ≠ some p

section
variable {w w' : World} {p bm : Nat} {src ov : Value} {m mi : Int} {O : List Int}
theorem Raw.c0 (h : Raw w p bm src ov m mi O) : w.cell? ⟨p, 0, none⟩ = some src := by rw [cell_at h.hp]; rfl
theorem Raw.c1 (h : Raw w p bm src ov m mi O) : w.cell? ⟨p, 1, none⟩ = some (.int .i64 m) := by rw [cell_at h.hp]; rfl
theorem Raw.c2 (h : Raw w p bm src ov m mi O) : w.cell? ⟨p, 2, none⟩ = some (.map (some bm)) := by rw [cell_at h.hp]; rfl
theorem Raw.c3 (h : Raw w p bm src ov m mi O) : w.cell? ⟨p, 3, none⟩ = some ov := by rw [cell_at h.hp]; rfl
theorem Raw.c4 (h : Raw w p bm src ov m mi O) : w.cell? ⟨p, 4, none⟩ = some (.int .i64 mi) := by rw [cell_at h.hp]; rfl
theorem Raw.f (h : Raw w p bm src ov m mi O) (i : Nat) : w.frozen? ⟨p, i, none⟩ = false := free_at h.hp i
theorem Raw.lt (h : Raw w p bm src ov m mi O) : p < w.heap.size := (Array.getElem?_eq_some_iff.1 h.hp).1
theorem Raw.kept (h : Raw w p bm src ov m mi O) {T : Nat → Prop} (ho : Only T w w') (h1 : ¬ T p) (h2 : ∀ k, ov.ownBlock = some k → ¬ T k) : Raw w' p bm src ov m mi O := by
  refine ⟨by rw [ho.block p h.lt h1]; exact h.hp, ⟨h.hr.1, ?_⟩, h.rp⟩
  rcases h.hr.2 with hn | ⟨g, cap, cur, rfl, hb, hg, rest⟩
  · exact .inl hn
  · exact .inr ⟨g, cap, cur, rfl, hb, by rw [ho.block g (Array.getElem?_eq_some_iff.1 hg).1 (h2 g rfl)]; exact hg, rest⟩
theorem Raw.below (h : Raw w p bm src ov m mi O) (hb : Below w.heap.size w w') : Raw w' p bm src ov m mi O :=
  h.kept (Only.of_below (fun _ => False) hb (Nat.le_refl _)) id (fun _ _ => id)
end

/-- Block p is a cache that says C; S: the blocks that are its own. -/
structure CB (S : Nat → Prop) (w : World) (p bm : Nat) (src ov : Value) (C : CS) : Prop where
  ok : C.Ok
  raw : Raw w p bm src ov (C.most : Int) (C.misses : Int) (keys C.L)
  map : MapL w bm C.L
  bp : bm ≠ p
  rb : ov.ownBlock ≠ some bm
  sp : S p
  sb : S bm
  sr : ∀ k, ov.ownBlock = some k → S k
  lt : ∀ k, S k → k < w.heap.size
def Cch (S : Nat → Prop) (w : World) (p : Nat) (src : Value) (C : CS) : Prop := ∃ bm ov, CB S w p bm src ov C
theorem CB.kept {S T : Nat → Prop} {w w' : World} {p bm : Nat} {src ov : Value} {C : CS} (h : CB S w p bm src ov C) (ho : Only T w w') (hT : ∀ k, S k → ¬ T k) : CB S w' p bm src ov C :=
  ⟨h.ok, h.raw.kept ho (hT p h.sp) (fun k hk => hT k (h.sr k hk)), h.map.kept (ho.block bm h.map.lt (hT bm h.sb)), h.bp, h.rb, h.sp, h.sb, h.sr, fun k hk => Nat.lt_of_lt_of_le (h.lt k hk) ho.size⟩
theorem Cch.kept {S T : Nat → Prop} {w w' : World} {p : Nat} {src : Value} {C : CS} (h : Cch S w p src C) (ho : Only T w w') (hT : ∀ k, S k → ¬ T k) : Cch S w' p src C := by
  obtain ⟨bm, ov, h⟩ := h; exact ⟨bm, ov, h.kept ho hT⟩
theorem Cch.below {S : Nat → Prop} {w w' : World} {p : Nat} {src : Value} {C : CS} (h : Cch S w p src C) (hb : Below w.heap.size w w') : Cch S w' p src C :=
  h.kept (Only.of_below (fun _ => False) hb (Nat.le_refl _)) (fun _ _ => id)
theorem Cch.ok {S : Nat → Prop} {w : World} {p : Nat} {src : Value} {C : CS} (h : Cch S w p src C) : C.Ok := by obtain ⟨bm, ov, h⟩ := h; exact h.ok
theorem Cch.lt {S : Nat → Prop} {w : World} {p : Nat} {src : Value} {C : CS} (h : Cch S w p src C) : ∀ k, S k → k < w.heap.size := by obtain ⟨bm, ov, h⟩ := h; exact h.lt
/-- What a call leaves: the cache says C', on its own blocks and new ones; all others are as they were. -/
def CLeaves (S : Nat → Prop) (w w' : World) (p : Nat) (src : Value) (C' : CS) : Prop := ∃ S' : Nat → Prop, (∀ k, S' k → S k ∨ w.heap.size ≤ k) ∧ Cch S' w' p src C' ∧ Only S w w'

/-- One number first. -/
def mv (O : List Int) (i : Int) : List Int := i :: O.eraseIdx (O.idxOf i)
theorem mv_old {L : List Kp} {i : Int} {k : Nat} {x y : Kp} (h : fx L i = some (k, x)) (hy : y.key = i) : mv (keys L) i = keys (y :: L.eraseIdx k) := by
  unfold mv; rw [idx_key h, ← keys_erase]; show _ = y.key :: _; rw [hy]; rfl
theorem mv_new {L : List Kp} {i : Int} {y : Kp} (h : fx L i = none) (hy : y.key = i) : mv (keys L) i = keys (y :: L) := by
  unfold mv
  rw [List.idxOf_eq_length (fx_none_iff.1 h), List.eraseIdx_of_length_le (Nat.le_refl _)]
  show _ = y.key :: _; rw [hy]; rfl

theorem row_cells {w : World} {O : List Int} {g cap : Nat} (h : w.ownsRow 0 3 1 (.slice (some ⟨g, 0, none⟩) O.length cap) O.length (O.map (Value.int .i64))) : ∀ j, j < O.length → w.cell? ⟨g, 0 + j, none⟩ = some (.int .i64 (O.getD j 0)) := by
  intro j hj
  rw [Nat.zero_add, World.ownsRow.cellAt h j (by omega), List.getElem?_map, List.getElem?_eq_getElem hj, List.getD_eq_getElem?_getD, List.getElem?_eq_getElem hj]
  rfl
theorem row_form {w : World} {O : List Int} {ov : Value} (h : w.ownsRow 0 3 1 ov O.length (O.map (Value.int .i64))) (h0 : 0 < O.length) : ∃ g cap cur, ov = .slice (some ⟨g, 0, none⟩) O.length cap ∧ w.heap[g]? = some (.cells cur 3 (0, 0)) ∧ O.length ≤ cap ∧ cap ≤ maxLen ∧ cur.size = cap ∧ cur.toList.take O.length = O.map (Value.int .i64) := by
  rcases h.2 with ⟨_, h1⟩ | ⟨g, cap, cur, h1, h2, h3, h4, h5, h6, h7⟩
  · omega
  · exact ⟨g, cap, cur, h1, h3, h4, h5, by omega, by simpa using h7⟩
theorem before_idx {O : List Int} {i : Int} {j : Nat} (h : j < O.idxOf i) (hj : j < O.length) : O[j] ≠ i := by
  induction O generalizing j with
  | nil => cases hj
  | cons x r ih =>
    rw [List.idxOf_cons] at h
    by_cases e : x = i
    · rw [beq_iff_eq.2 e] at h; simp at h
    · rw [beq_eq_false_iff_ne.2 e] at h
      cases j with
      | zero => simpa using e
      | succ j => simpa using ih (by simpa using h) (by simpa using hj)
theorem index_yes {w : World} {O : List Int} {ov : Value} {i : Int} {k : Nat} (h : w.ownsRow 0 3 1 ov O.length (O.map (Value.int .i64))) (hl : O.length ≤ 5000) (hk : k < O.length) (e : O.idxOf i = k) :
    Calls Try.prog 53 #[ov, .int .i64 i] w fun e w' => e = .returned (.int .i64 (k : Int)) ∧ w = w' := by
  obtain ⟨g, cap, cur, rfl, _⟩ := row_form h (by omega)
  have hgk : O.getD k 0 = i := by
    have h1 : O.idxOf i < O.length := by rw [e]; exact hk
    have := List.getElem_idxOf h1
    rw [List.getD_eq_getElem?_getD, List.getElem?_eq_getElem hk]
    simpa [e] using this
  have hne : ∀ j, j < k → O.getD j 0 ≠ i := by
    intro j hj he
    rw [List.getD_eq_getElem?_getD, List.getElem?_eq_getElem (by omega)] at he
    exact before_idx (show j < O.idxOf i by omega) (by omega) (by simpa using he)
  refine (Try.slices_Index_int g 0 O.length cap O i w (Nat.le_refl _) (by omega) (row_cells h)).mono fun e w' ⟨he, hw⟩ => ⟨?_, hw.symm⟩
  rw [he, Lib.idxOf_hit O O.length k i hk (Nat.le_refl _) hgk hne]
theorem index_no {w : World} {O : List Int} {ov : Value} {i : Int} (h : w.ownsRow 0 3 1 ov O.length (O.map (Value.int .i64))) (hl : O.length ≤ 5000) (hk : i ∉ O) :
    Calls Try.prog 53 #[ov, .int .i64 i] w fun e w' => e = .returned (.int .i64 (-1)) ∧ w = w' := by
  by_cases h0 : 0 < O.length
  · obtain ⟨g, cap, cur, rfl, _⟩ := row_form h h0
    refine (Try.slices_Index_int g 0 O.length cap O i w (Nat.le_refl _) (by omega) (row_cells h)).mono fun e w' ⟨he, hw⟩ => ⟨?_, hw.symm⟩
    rw [he, Lib.idxOf_miss O O.length i (fun j hj he' => hk ?_)]
    rw [List.getD_eq_getElem?_getD, List.getElem?_eq_getElem hj] at he'
    rw [← he']; exact List.getElem_mem hj
  · obtain ⟨ao, cap, rfl⟩ := own_shape h
    have e : O.length = 0 := by omega
    rw [e]
    exact (Try.slices_Index_int_empty ao cap i w).mono fun e w' ⟨he, hw⟩ => ⟨he, hw.symm⟩
end Go.Proofs.Yteeoglfgilabaaa
/- The map of a cache at the operations of a walk: a look-up, a store, a deletion. -/
namespace Go.Proofs.Yteeoglfgilabaaa
open Go.RowKit Go.Maps

theorem only_grown {w w' : World} {b : Nat} (h : w.grownBy w' (some b)) : Only (fun k => k = b) w w' :=
  ⟨h.os, h.tape, h.output, h.size, fun k hk hne => h.block k hk (fun e => hne (by simpa using e))⟩
section
variable (w : World) {ops : Array Oper} {rest : List Oper} {o : Oper} {a : Act} {Q : Exit → Act → World → Prop} {b : Nat} {L : List Kp} {i : Int}
theorem wpList_look_yes (hg : o.guard = none) (m x : Operand) (hop : o.op = Op.lookup 64 m x true) (hm : a.eval m = .map (some b)) (hx : a.eval x = .int .i64 i) (h : MapL w b L) (hn : (keys L).Nodup) (hw : Wf L) (k : Nat) (y : Kp) (hf : fx L i = some (k, y))
    (hK : wpList Try.prog ops Q rest (a.put o.dst (.tuple #[.agg #[.string y.data, .bool y.dirty, .int .i64 (y.pins : Int)], .bool true])) w) : wpList Try.prog ops Q (o :: rest) a w := by
  obtain ⟨hk, h1, h2, _⟩ := fx_some hf
  have hi : -9223372036854775808 ≤ i ∧ i ≤ 9223372036854775807 := by rw [← h2]; exact hw y (fx_mem hf)
  refine wpList_lookup_own_ok w hg m x 64 hop 3 71 klaw Try.underlying64 stE (zeroSt w) _ [] (stE_mk ⟨#[]⟩ false 0) b L.length (toD L) hm h _ (kl i) hx (keyI hi) (fun v ps hv => ?_)
  rw [atKey_yes hn hw hf] at hv
  rw [stE_dat hv, has_yes hf]
  exact hK
theorem wpList_look_no (hg : o.guard = none) (m x : Operand) (hop : o.op = Op.lookup 64 m x true) (hm : a.eval m = .map (some b)) (hx : a.eval x = .int .i64 i) (h : MapL w b L) (hi : -9223372036854775808 ≤ i ∧ i ≤ 9223372036854775807) (hf : fx L i = none)
    (hK : wpList Try.prog ops Q rest (a.put o.dst (.tuple #[.agg #[.string ⟨#[]⟩, .bool false, .int .i64 0], .bool false])) w) : wpList Try.prog ops Q (o :: rest) a w := by
  refine wpList_lookup_own_ok w hg m x 64 hop 3 71 klaw Try.underlying64 stE (zeroSt w) _ [] (stE_mk ⟨#[]⟩ false 0) b L.length (toD L) hm h _ (kl i) hx (keyI hi) (fun v ps hv => ?_)
  rw [atKey_no hf] at hv
  rw [stE_zero hv, has_no hf]
  exact hK
theorem wpList_has_yes (hg : o.guard = none) (m x : Operand) (hop : o.op = Op.lookup 64 m x false) (hm : a.eval m = .map (some b)) (hx : a.eval x = .int .i64 i) (h : MapL w b L) (hn : (keys L).Nodup) (hw : Wf L) (k : Nat) (y : Kp) (hf : fx L i = some (k, y))
    (hK : wpList Try.prog ops Q rest (a.put o.dst (.agg #[.string y.data, .bool y.dirty, .int .i64 (y.pins : Int)])) w) : wpList Try.prog ops Q (o :: rest) a w := by
  obtain ⟨hk, h1, h2, _⟩ := fx_some hf
  have hi : -9223372036854775808 ≤ i ∧ i ≤ 9223372036854775807 := by rw [← h2]; exact hw y (fx_mem hf)
  refine wpList_plain hg fun K' hK' => ?_
  obtain ⟨v, ps, hrun, hv⟩ := World.ownsMap.lookup h klaw Try.underlying64 (zeroSt w) (stE_mk ⟨#[]⟩ false 0) (keyI hi)
  rw [atKey_yes hn hw hf] at hv
  rw [stE_dat hv] at hrun
  unfold Oper.wp
  simp [execOp, hop, hm, hx, hrun, Result.andThen]
  exact hK' _ _ hK
theorem wpList_has_no (hg : o.guard = none) (m x : Operand) (hop : o.op = Op.lookup 64 m x false) (hm : a.eval m = .map (some b)) (hx : a.eval x = .int .i64 i) (h : MapL w b L) (hi : -9223372036854775808 ≤ i ∧ i ≤ 9223372036854775807) (hf : fx L i = none)
    (hK : wpList Try.prog ops Q rest (a.put o.dst (.agg #[.string ⟨#[]⟩, .bool false, .int .i64 0])) w) : wpList Try.prog ops Q (o :: rest) a w := by
  refine wpList_plain hg fun K' hK' => ?_
  obtain ⟨v, ps, hrun, hv⟩ := World.ownsMap.lookup h klaw Try.underlying64 (zeroSt w) (stE_mk ⟨#[]⟩ false 0) (keyI hi)
  rw [atKey_no hf] at hv
  rw [stE_zero hv] at hrun
  unfold Oper.wp
  simp [execOp, hop, hm, hx, hrun, Result.andThen]
  exact hK' _ _ hK
theorem wpList_upd (hg : o.guard = none) (m x v : Operand) (hop : o.op = Op.mapUpdate 64 m x v) (hm : a.eval m = .map (some b)) (hx : a.eval x = .int .i64 i) (h : MapL w b L) (hl : L.length ≤ 5000) (hi : -9223372036854775808 ≤ i ∧ i ≤ 9223372036854775807) (y : Kp) (hv : a.eval v = .agg #[.string y.data, .bool y.dirty, .int .i64 (y.pins : Int)]) (M : List Kp)
    (hput : (toD L).put (kl i) y.dat = toD M) (hK : ∀ w', Hid (MapL w' b M) → Hid (Only (fun k => k = b) w w') → wpList Try.prog ops Q rest (a.put o.dst undef) w') : wpList Try.prog ops Q (o :: rest) a w := by
  refine wpList_mapUpdate_own w hg m x v 64 hop 3 71 klaw Try.underlying64 stE b L.length (toD L) hm h (by unfold maxLen; omega) _ _ (kl i) hx hv (keyI hi) y.dat [] (stE_val y) (fun w' hown hgrow => ?_)
  rw [hput] at hown
  exact hK w' (show MapL _ _ _ from MapL.of hown) (show Only _ _ _ from only_grown hgrow)
theorem wpList_del (hg : o.guard = none) (m x : Operand) (hop : o.op = Op.call { callee := Callee.builtin Builtin.delete, args := #[m, x], argTypes := #[64, 3] }) (hm : a.eval m = .map (some b)) (hx : a.eval x = .int .i64 i) (h : MapL w b L) (hi : -9223372036854775808 ≤ i ∧ i ≤ 9223372036854775807) (M : List Kp)
    (hdel : (toD L).del (kl i) = toD M) (hK : ∀ w', Hid (MapL w' b M) → Hid (Only (fun k => k = b) w w') → wpList Try.prog ops Q rest (a.put o.dst (.tuple #[])) w') : wpList Try.prog ops Q (o :: rest) a w := by
  refine wpList_delete_own w hg m x 64 3 hop 71 klaw Try.underlying64 stE b L.length (toD L) hm h _ (kl i) hx (keyI hi) (fun w' hown hturn => ?_)
  rw [hdel] at hown
  exact hK w' (show MapL _ _ _ from MapL.of hown) (show Only _ _ _ from only_grown hturn.grown)
end
end Go.Proofs.Yteeoglfgilabaaa
/- What Misses, Pin and Unpin answer and leave. -/
namespace Go.Proofs.Yteeoglfgilabaaa
open Go.RowKit

theorem MapL.below {w w' : World} {b : Nat} {L : List Kp} (h : MapL w b L) (hb : Below w.heap.size w w') : MapL w' b L := h.kept (hb.block b h.lt)
section
variable {S : Nat → Prop} {w w' : World} {p bm : Nat} {src ov : Value} {C C' : CS}
theorem CB.wf (h : CB S w p bm src ov C) : Wf C.L := h.ok.wf
/-- The map turned, the numbers as they were. -/
theorem CB.turned (h : CB S w p bm src ov C) (ho : Only (fun k => k = bm) w w') (hm : MapL w' bm C'.L) (ok : C'.Ok) (hk : keys C'.L = keys C.L) (h1 : C'.most = C.most) (h2 : C'.misses = C.misses) : CB S w' p bm src ov C' := by
  have hr := h.raw.kept ho (fun e => h.bp e.symm) (fun k hk e => h.rb (e ▸ hk))
  refine ⟨ok, ?_, hm, h.bp, h.rb, h.sp, h.sb, h.sr, fun k hk => Nat.lt_of_lt_of_le (h.lt k hk) ho.size⟩
  rw [hk, h1, h2]; exact hr
theorem CB.below (h : CB S w p bm src ov C) (hb : Below w.heap.size w w') : CB S w' p bm src ov C := h.kept (Only.of_below (fun _ => False) hb (Nat.le_refl _)) (fun _ _ => id)
theorem st_new (w : World) (s : ByteArray) (d : Bool) (n : Int) : ∃ W, w.alloc (.cells #[.string s, .bool d, .int .i64 n] 71) = W ∧ W.cell? ⟨w.heap.size, 0, none⟩ = some (.string s) ∧ W.cell? ⟨w.heap.size, 1, none⟩ = some (.bool d) ∧ W.cell? ⟨w.heap.size, 2, none⟩ = some (.int .i64 n) ∧ Below w.heap.size w W :=
  ⟨_, rfl, by rw [World.cell?_alloc_mark]; rfl, by rw [World.cell?_alloc_mark]; rfl, by rw [World.cell?_alloc_mark]; rfl, (Below.refl _ _).alloc (Nat.le_refl _) _⟩
theorem CB.leaves (h : CB S w' p bm src ov C') (ho : Only S w w') : CLeaves S w w' p src C' := ⟨S, fun _ => .inl, ⟨bm, ov, h⟩, ho⟩

set_option maxRecDepth 100000 in
set_option maxHeartbeats 400000 in
theorem misses_any (h : Cch S w p src C) : Calls Try.prog 15 #[.pointer (some ⟨p, 0, none⟩)] w fun e w' => e = .returned (.int .i64 (C.misses : Int)) ∧ w = w' := by
  obtain ⟨bm, ov, h⟩ := h
  have c4 := h.raw.c4
  clear h
  go_enter Try.func15, Try.ntmps15
  go_wp2
  go_ret
  exact ⟨rfl, rfl⟩
set_option maxRecDepth 100000 in
set_option maxHeartbeats 1000000 in
theorem pin_yes (i : Int) (k : Nat) (y : Kp) (hf : fx C.L i = some (k, y)) (h : CB S w p bm src ov C) (hp : y.pins < 1000000) :
    Calls Try.prog 23 #[.pointer (some ⟨p, 0, none⟩), .int .i64 i] w fun e w' => e = .returned (.int .i64 0) ∧ CLeaves S w w' p src { C with L := C.L.set k { y with pins := y.pins + 1 } } := by
  have c2 := h.raw.c2
  have hlt := h.raw.lt
  have hs := fx_some hf
  have h2 := hs.2.2.1
  have hi : -9223372036854775808 ≤ i ∧ i ≤ 9223372036854775807 := by rw [← h2]; exact h.ok.wf y (fx_mem hf)
  have HF := Lib.hid hf
  have HB := Lib.hid h
  have HI := Lib.hid hi
  have hl : C.L.length ≤ 5000 := by have := h.ok.len; have := h.ok.m1; omega
  have HP := Lib.hid (toD_put_set (y := { y with pins := y.pins + 1 }) h.ok.nodup h.ok.wf hf h2)
  have HO := Lib.hid (h.ok.set (y := { y with pins := y.pins + 1 }) hf rfl (h.ok.ds y (fx_mem hf)) (by show y.pins + 1 ≤ 1000000; omega))
  have HKY : Hid (keys (C.L.set k { y with pins := y.pins + 1 }) = keys C.L) := keys_set hs.1 (by rw [hs.2.1])
  have HL := Lib.hid hl
  clear hf h hs h2 hi hl
  obtain ⟨yi, s, d, n⟩ := y
  simp only at hp HP HO HKY ⊢
  generalize hy : ({ key := yi, data := s, dirty := d, pins := n + 1 } : Kp) = y' at *
  have HY := Lib.hid hy; clear hy
  go_enter Try.func23, Try.ntmps23
  go_wp2_with (at_lookup; refine wpList_look_yes _ rfl _ _ rfl rfl rfl HB.out.map HB.out.ok.nodup HB.out.ok.wf k _ HF.out ?_)
  obtain ⟨W, hW, l0, l1, l2, hb⟩ := st_new w s d ((n : Int) + 1)
  rw [hW]
  clear hW
  have c2' := (hb.cell (p := ⟨p, 2, none⟩) hlt).trans c2
  have HB2 := Lib.hid (HB.out.below hb.drew)
  have HOn : Hid (Only (fun _ => False) w W.drew) := Only.of_below _ hb.drew (Nat.le_refl _)
  clear hb c2
  go_still_tail 6, (by kernel_rfl)
  refine wpList_upd _ ?ug (.tmp 25) (.tmp 26) (.tmp 27) ?uh ?um ?ux HB2.out.map HL.out HI.out y' ?uv _ HP.out ?_
  case ug => rfl
  case uh => rfl
  case um => rfl
  case ux => rfl
  case uv => rw [← HY.out]; rfl
  intro w2 hm2 ho2
  have HC := Lib.hid (HB2.out.turned (C' := { C with L := C.L.set k y' }) ho2.out hm2.out HO.out HKY.out rfl rfl)
  go_wp2
  go_ret
  exact ⟨rfl, HC.out.leaves ((HOn.out.mono (fun _ _ f => f.elim)).trans ho2.out (fun j _ e => by subst e; exact HB.out.sb))⟩

set_option maxRecDepth 100000 in
set_option maxHeartbeats 1000000 in
theorem pin_no (i : Int) (hi : -9223372036854775808 ≤ i ∧ i ≤ 9223372036854775807) (hf : fx C.L i = none) (h : CB S w p bm src ov C) :
    Calls Try.prog 23 #[.pointer (some ⟨p, 0, none⟩), .int .i64 i] w fun e w' => e = .returned (.int .i64 10) ∧ CLeaves S w w' p src C := by
  have c2 := h.raw.c2
  have HF := Lib.hid hf
  have HB := Lib.hid h
  have HI := Lib.hid hi
  clear hf h hi
  go_enter Try.func23, Try.ntmps23
  go_wp2_with (at_lookup; refine wpList_look_no _ rfl _ _ rfl rfl rfl HB.out.map HI.out HF.out ?_)
  go_ret
  have hb : Below w.heap.size w (w.alloc (.cells #[.string ⟨#[]⟩, .bool false, .int .i64 0] 71)) := (Below.refl _ _).alloc (Nat.le_refl _) _
  exact ⟨rfl, (HB.out.below hb).leaves (Only.of_below _ hb (Nat.le_refl _))⟩

set_option maxRecDepth 100000 in
set_option maxHeartbeats 1000000 in
theorem unpin_no (i : Int) (hi : -9223372036854775808 ≤ i ∧ i ≤ 9223372036854775807) (hf : fx C.L i = none) (h : CB S w p bm src ov C) :
    Calls Try.prog 28 #[.pointer (some ⟨p, 0, none⟩), .int .i64 i] w fun e w' => e = .returned (.int .i64 10) ∧ CLeaves S w w' p src C := by
  have c2 := h.raw.c2
  have HF := Lib.hid hf
  have HB := Lib.hid h
  have HI := Lib.hid hi
  clear hf h hi
  go_enter Try.func28, Try.ntmps28
  go_wp2_with (at_lookup; refine wpList_look_no _ rfl _ _ rfl rfl rfl HB.out.map HI.out HF.out ?_)
  go_ret
  have hb : Below w.heap.size w (w.alloc (.cells #[.string ⟨#[]⟩, .bool false, .int .i64 0] 71)) := (Below.refl _ _).alloc (Nat.le_refl _) _
  exact ⟨rfl, (HB.out.below hb).leaves (Only.of_below _ hb (Nat.le_refl _))⟩

set_option maxRecDepth 100000 in
set_option maxHeartbeats 1000000 in
theorem unpin_zero (i : Int) (k : Nat) (y : Kp) (hf : fx C.L i = some (k, y)) (h : CB S w p bm src ov C) (hp : y.pins = 0) :
    Calls Try.prog 28 #[.pointer (some ⟨p, 0, none⟩), .int .i64 i] w fun e w' => e = .returned (.int .i64 14) ∧ CLeaves S w w' p src C := by
  have c2 := h.raw.c2
  have HF := Lib.hid hf
  have HB := Lib.hid h
  clear hf h
  obtain ⟨yi, s, d, n⟩ := y
  simp only at hp
  subst hp
  go_enter Try.func28, Try.ntmps28
  go_wp2_with (at_lookup; refine wpList_look_yes _ rfl _ _ rfl rfl rfl HB.out.map HB.out.ok.nodup HB.out.ok.wf k _ HF.out ?_)
  go_ret
  have hb : Below w.heap.size w (w.alloc (.cells #[.string s, .bool d, .int .i64 ((0 : Nat) : Int)] 71)) := (Below.refl _ _).alloc (Nat.le_refl _) _
  exact ⟨rfl, (HB.out.below hb).leaves (Only.of_below _ hb (Nat.le_refl _))⟩
set_option maxRecDepth 100000 in
set_option maxHeartbeats 1000000 in
theorem unpin_yes (i : Int) (k : Nat) (y : Kp) (hf : fx C.L i = some (k, y)) (h : CB S w p bm src ov C) (hp : y.pins ≠ 0) :
    Calls Try.prog 28 #[.pointer (some ⟨p, 0, none⟩), .int .i64 i] w fun e w' => e = .returned (.int .i64 0) ∧ CLeaves S w w' p src { C with L := C.L.set k { y with pins := y.pins - 1 } } := by
  have c2 := h.raw.c2
  have hlt := h.raw.lt
  have hs := fx_some hf
  have h2 := hs.2.2.1
  have hi : -9223372036854775808 ≤ i ∧ i ≤ 9223372036854775807 := by rw [← h2]; exact h.ok.wf y (fx_mem hf)
  have HF := Lib.hid hf
  have HB := Lib.hid h
  have HI := Lib.hid hi
  have hl : C.L.length ≤ 5000 := by have := h.ok.len; have := h.ok.m1; omega
  have hpn : y.pins ≤ 1000000 := h.ok.pn y (fx_mem hf)
  have HP := Lib.hid (toD_put_set (y := { y with pins := y.pins - 1 }) h.ok.nodup h.ok.wf hf h2)
  have HO := Lib.hid (h.ok.set (y := { y with pins := y.pins - 1 }) hf rfl (h.ok.ds y (fx_mem hf)) (by show y.pins - 1 ≤ 1000000; omega))
  have HKY : Hid (keys (C.L.set k { y with pins := y.pins - 1 }) = keys C.L) := keys_set hs.1 (by rw [hs.2.1])
  have HL := Lib.hid hl
  clear hf h hs h2 hi hl
  obtain ⟨yi, s, d, n⟩ := y
  simp only at hp HP HO HKY hpn ⊢
  obtain ⟨n, rfl⟩ : ∃ m, n = m + 1 := ⟨n - 1, by omega⟩
  rw [Nat.add_sub_cancel] at *
  generalize hy : ({ key := yi, data := s, dirty := d, pins := n } : Kp) = y' at *
  have HY := Lib.hid hy; clear hy
  have hn0 : (((n + 1 : Nat) : Int) == 0) = false := beq_eq_false_iff_ne.2 (by omega)
  have hn1 : ((n + 1 : Nat) : Int) - 1 = (n : Int) := by omega
  go_enter Try.func28, Try.ntmps28
  go_wp2_with (at_lookup; refine wpList_look_yes _ rfl _ _ rfl rfl rfl HB.out.map HB.out.ok.nodup HB.out.ok.wf k _ HF.out ?_)
  obtain ⟨W, hW, l0, l1, l2, hb⟩ := st_new w s d (n : Int)
  rw [hW]
  clear hW hn0 hn1
  have c2' := (hb.cell (p := ⟨p, 2, none⟩) hlt).trans c2
  have HB2 := Lib.hid (HB.out.below hb.drew)
  have HOn : Hid (Only (fun _ => False) w W.drew) := Only.of_below _ hb.drew (Nat.le_refl _)
  clear hb c2
  go_still_tail 6, (by kernel_rfl)
  refine wpList_upd _ ?ug (.tmp 28) (.tmp 29) (.tmp 30) ?uh ?um ?ux HB2.out.map HL.out HI.out y' ?uv _ HP.out ?_
  case ug => rfl
  case uh => rfl
  case um => rfl
  case ux => rfl
  case uv => rw [← HY.out]; rfl
  intro w2 hm2 ho2
  have HC := Lib.hid (HB2.out.turned (C' := { C with L := C.L.set k y' }) ho2.out hm2.out HO.out HKY.out rfl rfl)
  go_wp2
  go_ret
  exact ⟨rfl, HC.out.leaves ((HOn.out.mono (fun _ _ f => f.elim)).trans ho2.out (fun j _ e => by subst e; exact HB.out.sb))⟩

theorem pin_any (i : Int) (hi : -9223372036854775808 ≤ i ∧ i ≤ 9223372036854775807) (h : Cch S w p src C) (hp : ∀ x ∈ C.L, x.pins < 1000000) :
    Calls Try.prog 23 #[.pointer (some ⟨p, 0, none⟩), .int .i64 i] w fun e w' => e = .returned (.int .i64 (C.pin i).1) ∧ CLeaves S w w' p src (C.pin i).2 := by
  obtain ⟨bm, ov, h⟩ := h
  cases hf : fx C.L i with
  | none => have e : C.pin i = (10, C) := by unfold CS.pin; rw [hf]
            rw [e]; exact pin_no i hi hf h
  | some ky =>
    obtain ⟨k, y⟩ := ky
    have e : C.pin i = (0, { C with L := C.L.set k { y with pins := y.pins + 1 } }) := by unfold CS.pin; rw [hf]
    rw [e]; exact pin_yes i k y hf h (hp y (fx_mem hf))
theorem unpin_any (i : Int) (hi : -9223372036854775808 ≤ i ∧ i ≤ 9223372036854775807) (h : Cch S w p src C) :
    Calls Try.prog 28 #[.pointer (some ⟨p, 0, none⟩), .int .i64 i] w fun e w' => e = .returned (.int .i64 (C.unpin i).1) ∧ CLeaves S w w' p src (C.unpin i).2 := by
  obtain ⟨bm, ov, h⟩ := h
  cases hf : fx C.L i with
  | none => have e : C.unpin i = (10, C) := by unfold CS.unpin; rw [hf]
            rw [e]; exact unpin_no i hi hf h
  | some ky =>
    obtain ⟨k, y⟩ := ky
    by_cases h0 : y.pins = 0
    · have e : C.unpin i = (14, C) := by unfold CS.unpin; rw [hf]; simp [h0]
      rw [e]; exact unpin_zero i k y hf h h0
    · have e : C.unpin i = (0, { C with L := C.L.set k { y with pins := y.pins - 1 } }) := by unfold CS.unpin; rw [hf]; simp [h0]
      rw [e]; exact unpin_yes i k y hf h h0
end
end Go.Proofs.Yteeoglfgilabaaa
/- Rows of numbers that the library rewrites: slices.Delete, slices.DeleteFunc, slices.Clone. -/
namespace Go.Proofs.Yteeoglfgilabaaa
open Go.RowKit Go.Sort

theorem putRow_own {w : World} {g cap n : Nat} {xs : List Value} (h : w.ownsRow 0 3 1 (.slice (some ⟨g, 0, none⟩) n cap) n xs) (q : Nat) (d : List Int) (hd : d.length = n) (m : Nat) (hm : m ≤ n) :
    (putRow (Value.int .i64) (Sort.ahead w q) g 0 d.toArray).ownsRow 0 3 1 (.slice (some ⟨g, 0, none⟩) m cap) m ((d.take m).map (Value.int .i64)) ∧ Only (fun k => k = g) w (putRow (Value.int .i64) (Sort.ahead w q) g 0 d.toArray) := by
  have hlen : ((d.take m).map (Value.int .i64)).length = m * 1 := by simp; omega
  rcases h.2 with ⟨hv, _⟩ | ⟨g', cap', cur, hv, hb, hg, hc1, hc2, hc3, hc4⟩
  · cases hv
  · obtain ⟨rfl, rfl⟩ : g = g' ∧ cap = cap' := by simpa using hv
    refine ⟨⟨hlen, .inr ⟨g, cap, putCells (Value.int .i64) 0 d.toArray cur, rfl, Nat.zero_le _, ?_, by omega, hc2, by simp [putCells, hc3], ?_⟩⟩, ?_⟩
    · simp only [putRow, mapBlock, Array.getElem?_modify, if_pos]
      show (w.heap[g]?).map _ = _
      rw [hg]; rfl
    · apply List.ext_getElem
      · rw [hlen, List.length_take, Array.length_toList]
        simp [putCells, hc3]; omega
      · intro i h1 h2
        have hi : i < m := by simp at h2; omega
        have hid : i < d.length := by omega
        simp only [List.getElem_take, Array.getElem_toList, List.getElem_map, putCells, Array.getElem_mapIdx]
        rw [if_pos ⟨Nat.zero_le _, by simp; omega⟩]
        simp [hid]
    · refine ⟨rfl, rfl, rfl, by simp [putRow, mapBlock], fun k hk hne => ?_⟩
      show ((Sort.ahead w q).heap.modify g _)[k]? = w.heap[k]?
      rw [Array.getElem?_modify, if_neg (fun e => hne e.symm)]; rfl
theorem holds_row {w : World} {O : List Int} {g cap : Nat} (h : w.ownsRow 0 3 1 (.slice (some ⟨g, 0, none⟩) O.length cap) O.length (O.map (Value.int .i64))) : Holds (Value.int .i64) w g 0 O.toArray := by
  intro j hj
  have hj' : j < O.length := by simpa using hj
  refine ⟨?_, World.ownsRow.frozenAt h _⟩
  have := row_cells h j hj'
  rw [this]
  simp [List.getD_eq_getElem?_getD, hj']
theorem row_caps {w : World} {n g cap : Nat} {xs : List Value} (h : w.ownsRow 0 3 1 (.slice (some ⟨g, 0, none⟩) n cap) n xs) : n ≤ cap ∧ cap ≤ 9223372036854775807 := by
  rcases h.2 with ⟨hv, _⟩ | ⟨g', cap', cur, hv, hb, hg, hc1, hc2, hc3, hc4⟩
  · cases hv
  · obtain ⟨rfl, rfl⟩ : g = g' ∧ cap = cap' := by simpa using hv
    unfold maxLen at hc2
    exact ⟨hc1, by omega⟩
theorem delete_any {w : World} {O : List Int} {g cap k : Nat} (h : w.ownsRow 0 3 1 (.slice (some ⟨g, 0, none⟩) O.length cap) O.length (O.map (Value.int .i64))) (hk : k < O.length) :
    Calls Try.prog 67 #[.slice (some ⟨g, 0, none⟩) O.length cap, .int .i64 (k : Int), .int .i64 ((k : Int) + 1)] w fun e w' => e = .returned (.slice (some ⟨g, 0, none⟩) (O.length - 1) cap) ∧
      w'.ownsRow 0 3 1 (.slice (some ⟨g, 0, none⟩) (O.length - 1) cap) (O.length - 1) ((O.eraseIdx k).map (Value.int .i64)) ∧ Only (fun k => k = g) w w' := by
  obtain ⟨hc1, hc2⟩ := row_caps h
  have := Try.slices_Delete_int g 0 cap k (k + 1) O w (holds_row h) hc1 hc2 (by omega) (by omega)
  rw [Int.natCast_add] at this
  refine this.mono fun e w' ⟨he, q, hw⟩ => ?_
  rw [show k + 1 - k = 1 by omega] at he hw
  have hd : (O.take k ++ O.drop (k + 1) ++ List.replicate 1 0).length = O.length := by simp; omega
  have hp := putRow_own h q _ hd (O.length - 1) (by omega)
  rw [← hw] at hp
  have e2 : (O.take k ++ O.drop (k + 1) ++ List.replicate 1 0).take (O.length - 1) = O.eraseIdx k := by
    rw [List.eraseIdx_eq_take_drop_succ, List.take_append_of_le_length (by simp; omega), List.take_of_length_le (by simp; omega)]
  rw [e2] at hp
  exact ⟨he, hp⟩
end Go.Proofs.Yteeoglfgilabaaa
/- What Clean leaves. -/
namespace Go.Proofs.Yteeoglfgilabaaa
open Go.RowKit

def Kp.cl (x : Kp) : Kp := { x with dirty := false }
def clT (L : List Kp) (j : Nat) : List Kp := (L.take j).map Kp.cl ++ L.drop j
theorem clT_zero (L : List Kp) : clT L 0 = L := rfl
theorem clT_full (L : List Kp) : clT L L.length = L.map Kp.cl := by simp [clT]
theorem clT_len (L : List Kp) (j : Nat) : (clT L j).length = L.length := by simp [clT]; omega
theorem clT_keys (L : List Kp) (j : Nat) : keys (clT L j) = keys L := by
  unfold clT keys
  rw [List.map_append, List.map_map, show (fun x : Kp => x.key) ∘ Kp.cl = fun x => x.key from rfl, ← List.map_append, List.take_append_drop]
theorem clT_get (L : List Kp) (j : Nat) (h : j < L.length) : (clT L j)[j]'(by rw [clT_len]; exact h) = L[j] := by
  have hl : ((L.take j).map Kp.cl).length = j := by simp; omega
  have : (clT L j)[j]? = some L[j] := by
    unfold clT
    rw [List.getElem?_append_right (by omega), hl, Nat.sub_self, List.getElem?_drop, Nat.add_zero, List.getElem?_eq_getElem h]
  exact (List.getElem?_eq_some_iff.1 this).2
theorem clT_succ (L : List Kp) (j : Nat) (h : j < L.length) : (clT L j).set j L[j].cl = clT L (j + 1) := by
  have hl : ((L.take j).map Kp.cl).length = j := by simp; omega
  unfold clT
  rw [List.set_append_right _ _ (by omega), hl, Nat.sub_self, List.drop_eq_getElem_cons h, List.set_cons_zero, List.take_succ_eq_append_getElem h, List.map_append]
  simp
theorem clT_ok {C : CS} (ok : C.Ok) (j : Nat) : ({ C with L := clT C.L j } : CS).Ok := by
  have hm : ∀ z ∈ clT C.L j, z ∈ C.L ∨ ∃ x ∈ C.L, z = x.cl := by
    intro z hz
    rcases List.mem_append.1 hz with hz | hz
    · obtain ⟨x, hx, rfl⟩ := List.mem_map.1 hz
      exact .inr ⟨x, List.mem_of_mem_take hx, rfl⟩
    · exact .inl (List.mem_of_mem_drop hz)
  refine ⟨by show (keys (clT C.L j)).Nodup; rw [clT_keys]; exact ok.nodup, by show (clT C.L j).length ≤ _; rw [clT_len]; exact ok.len, ok.m0, ok.m1, ok.ms, ?_, ?_, ?_⟩
  · intro z hz; rcases hm z hz with h | ⟨x, hx, rfl⟩
    · exact ok.wf z h
    · exact ok.wf x hx
  · intro z hz; rcases hm z hz with h | ⟨x, hx, rfl⟩
    · exact ok.ds z h
    · exact ok.ds x hx
  · intro z hz; rcases hm z hz with h | ⟨x, hx, rfl⟩
    · exact ok.pn z h
    · exact ok.pn x hx
section
variable {S : Nat → Prop} {w w' : World} {p bm : Nat} {src ov : Value} {C C' : CS}
theorem keys_len (L : List Kp) : (keys L).length = L.length := by simp [keys]
theorem keys_getD (L : List Kp) (j : Nat) (h : j < L.length) : (keys L).getD j 0 = L[j].key := by
  unfold keys; rw [List.getD_eq_getElem?_getD, List.getElem?_map, List.getElem?_eq_getElem h]; rfl
set_option maxRecDepth 100000 in
set_option maxHeartbeats 1000000 in
theorem clean_any (h : Cch S w p src C) :
    Calls Try.prog 26 #[.pointer (some ⟨p, 0, none⟩)] w fun e w' => e = .returned (.tuple #[]) ∧ CLeaves S w w' p src C.clean := by
  obtain ⟨bm, ov, h⟩ := h
  obtain ⟨ao, cap, hov⟩ := own_shape h.raw.hr
  rw [keys_len] at hov
  subst hov
  obtain ⟨n, hn⟩ : ∃ n, C.L.length = n := ⟨_, rfl⟩
  have c3 := h.raw.c3
  have hl : C.L.length ≤ 1024 := by have := h.ok.len; have := h.ok.m1; omega
  have HL := Lib.hid hn
  rw [hn] at hl c3 h
  have HB0 := Lib.hid h
  have HOK := Lib.hid h.ok
  have hlt := h.raw.lt
  have HR : Hid (∀ (j : Nat) (W : World) (D : List Kp), j < n → keys D = keys C.L → W.ownsRow 0 3 1 (.slice ao n cap) (keys D).length ((keys D).map (Value.int .i64)) → ∃ g, ao = some ⟨g, 0, none⟩ ∧ W.cell? ⟨g, j, none⟩ = some (.int .i64 ((keys C.L).getD j 0))) := by
    intro j W D hj hD hW
    rw [hD] at hW
    have hlk : (keys C.L).length = n := by rw [keys_len]; exact HL.out
    obtain ⟨g, cap', cur, hv, _⟩ := row_form hW (by omega)
    rw [hlk] at hv
    obtain ⟨rfl, rfl⟩ : ao = some ⟨g, 0, none⟩ ∧ cap = cap' := by simpa using hv
    have := row_cells (w := W) (O := keys C.L) (g := g) (cap := cap) (by rw [hlk] at hW ⊢; exact hW) j (by omega)
    rw [Nat.zero_add] at this
    exact ⟨g, rfl, this⟩
  clear h hn
  go_enter Try.func26, Try.ntmps26
  go_wp2
  go_loopw [3, 4, 10] (fun _ _ s wr => ∃ j : Nat, j ≤ n ∧ s = .int .i64 (j : Int) ∧ Hid (CB S wr p bm src (.slice ao n cap) { C with L := clT C.L j }) ∧ Hid (Only S w wr)) (fun _ _ s _ => n - (intOf s).toNat)
  case atStart => exact ⟨0, Nat.zero_le _, rfl, HB0.out, (show Only _ _ _ from Only.refl _ _)⟩
  case round =>
    obtain ⟨j, hj, rfl, HB, HO⟩ := hrel
    by_cases hlt' : j < n
    · have hjn : (j : Int) < (n : Int) := by omega
      have hj0 : (0 : Int) ≤ (j : Int) := by omega
      have hjl : j < C.L.length := by rw [HL.out]; exact hlt'
      obtain ⟨g, rfl, cj⟩ := HR.out j wr (clT C.L j) hlt' (clT_keys _ _) HB.out.raw.hr
      rw [keys_getD _ _ hjl] at cj
      have c2 := HB.out.raw.c2
      have hf : fx (clT C.L j) C.L[j].key = some (j, C.L[j]) := by
        have := fx_of (L := clT C.L j) (k := j) (by rw [clT_keys]; exact HOK.out.nodup) (by rw [clT_len]; exact hjl)
        rw [clT_get _ _ hjl] at this
        exact this
      have HF := Lib.hid hf
      have HI := Lib.hid (HOK.out.wf C.L[j] (List.getElem_mem hjl))
      have HP : Hid ((toD (clT C.L j)).put (kl C.L[j].key) C.L[j].cl.dat = toD (clT C.L (j + 1))) := by
        have := toD_put_set (y := C.L[j].cl) (by rw [clT_keys]; exact HOK.out.nodup) (clT_ok HOK.out j).wf hf rfl
        rwa [clT_succ _ _ hjl] at this
      have HLl : Hid ((clT C.L j).length ≤ 5000) := by show _ ≤ _; rw [clT_len, HL.out]; omega
      have HPL := HB.out.raw.lt
      clear hf
      generalize hy : C.L[j] = y at *
      clear hy hjl
      obtain ⟨i, s, d, m⟩ := y
      simp only at cj HI HF HP
      go_wp2_with (at_lookup; refine wpList_has_yes _ rfl _ _ rfl rfl rfl HB.out.map HB.out.ok.nodup HB.out.ok.wf j _ HF.out ?_)
      obtain ⟨W, hW, l0, l1, l2, hb⟩ := st_new wr s false (m : Int)
      rw [hW]
      clear hW
      have c2' := (hb.cell (p := ⟨p, 2, none⟩) HPL).trans c2
      have HB2 := Lib.hid (HB.out.below hb.drew)
      have HOn : Hid (Only (fun _ => False) wr W.drew) := Only.of_below _ hb.drew (Nat.le_refl _)
      clear hb c2
      go_still_tail 6, (by kernel_rfl)
      refine wpList_upd _ ?ug (.tmp 24) (.tmp 25) (.tmp 26) ?uh ?um ?ux HB2.out.map HLl.out HI.out _ ?uv _ HP.out ?_
      case ug => rfl
      case uh => rfl
      case um => rfl
      case ux => rfl
      case uv => rfl
      intro w2 hm2 ho2
      have HC := Lib.hid (HB2.out.turned (C' := { C with L := clT C.L (j + 1) }) ho2.out hm2.out (clT_ok HOK.out _) (by show keys (clT C.L (j + 1)) = keys (clT C.L j); rw [clT_keys, clT_keys]) rfl rfl)
      have HO2 : Hid (Only S w w2) := HO.out.trans ((HOn.out.mono (fun _ _ f => f.elim)).trans ho2.out (fun j _ e => by subst e; exact HB.out.sb)) (fun _ _ h => h)
      clear hm2 ho2
      go_wp2
      go_roundw
      case rel => exact ⟨j + 1, by omega, by go_num, HC.out, HO2.out⟩
      case measure => simp [intOf]; omega
    · obtain rfl : j = n := by omega
      have hjn : ¬ (j : Int) < (j : Int) := by omega
      go_wp2
      go_end0
      have e : clT C.L j = C.clean.L := by rw [← HL.out, clT_full]; rfl
      have hB := HB.out
      rw [e] at hB
      exact ⟨rfl, hB.leaves HO.out⟩
end
end Go.Proofs.Yteeoglfgilabaaa
/- What use leaves: the number first, all others in their order. -/
namespace Go.Proofs.Yteeoglfgilabaaa
open Go.RowKit

/-- copy, in a row that is known whole: no other block turns. -/
theorem wpList_copy_only {P : Program} {w : World} {ops : Array Oper} {rest : List Oper} {o : Oper} {a : Act} {Q : Exit → Act → World → Prop} (hgd : o.guard = none) (d s : Operand) (dT sT : TypeId)
    (ho : o.op = .call { callee := .builtin .copy, args := #[d, s], argTypes := #[dT, sT] }) (elem : TypeId) (hu : P.underlying dT = some (.slice elem)) (hsz : (P.info? elem).map (·.size) = some 1)
    (dp sp : Option Addr) (dLen dCap sLen sCap : Nat) (hd : a.eval d = .slice dp dLen dCap) (hs : a.eval s = .slice sp sLen sCap)
    (g off : Nat) (cur : List Value) (t : TypeId) (hg : w.heap[g]? = some (.cells cur.toArray t (0, 0))) (cs : List Value) (hn : cs.length = Nat.min sLen dLen)
    (hpos : 0 < cs.length → dp = some ⟨g, off, none⟩ ∧ ∃ ad, sp = some ad ∧ ∀ j v, cs[j]? = some v → w.cell? (ad.add j) = some v)
    (hfit : off + cs.length ≤ cur.length) (h1 : ∀ v ∈ cs, v.oneCell' = true)
    (h : ∀ w', Hid (w'.heap[g]? = some (.cells (splice cur off cs).toArray t (0, 0))) → Hid (Only (fun k => k = g) w w') → wpList P ops Q rest (a.put o.dst (goInt cs.length)) w') :
    wpList P ops Q (o :: rest) a w := by
  by_cases h0 : cs.length = 0
  · obtain rfl : cs = [] := List.eq_nil_of_length_eq_zero h0
    refine wpList_copy_nothing hgd d s dT sT ho elem hu hsz dp sp dLen dCap sLen sCap hd hs (by simpa using hn.symm) ?_
    exact h w (show _ = _ by simpa [splice] using hg) (show Only _ _ _ from Only.refl _ _)
  · obtain ⟨rfl, ad, rfl, hsrc⟩ := hpos (by omega)
    refine wpList_copy_own hgd d s dT sT ho elem hu hsz g off dLen dCap ad sLen sCap hd hs cur.toArray t hg cs hn hsrc (by simpa using hfit) h1 ?_
    refine h _ (show _ = _ by simpa [splice] using setRow_heap w g _ _ t _ hg) (show Only _ _ _ from ⟨rfl, rfl, rfl, by simp [World.setRow], fun k _ hk => setRow_other w g k _ hk⟩)

theorem front_row {α : Type} (cur : List α) (k n : Nat) (v : α) (hk : k < n) (hn : n ≤ cur.length) : ((splice cur 1 (cur.take k)).set 0 v).take n = v :: (cur.take n).eraseIdx k := by
  have hl : (cur.take k).length = k := by rw [List.length_take]; omega
  cases cur with
  | nil => simp at hn; omega
  | cons x r =>
    unfold splice
    rw [hl]
    simp only [List.take_succ_cons, List.take_zero, List.cons_append, List.nil_append, List.set_cons_zero]
    cases n with
    | zero => omega
    | succ n =>
      rw [List.take_succ_cons, List.take_succ_cons]
      congr 1
      rw [List.eraseIdx_eq_take_drop_succ, Nat.add_comm 1 k, List.drop_succ_cons, List.drop_succ_cons, ← List.take_succ_cons, List.take_take, List.drop_take]
      rw [List.take_append, hl, Nat.min_eq_left (by omega)]
      rw [List.take_of_length_le (by rw [hl]; omega)]
theorem map_eraseIdx' {α β : Type} (f : α → β) (l : List α) (k : Nat) : (l.eraseIdx k).map f = (l.map f).eraseIdx k := by
  induction l generalizing k with
  | nil => rfl
  | cons y r ih => cases k with
    | zero => rfl
    | succ j => simp [ih]
theorem _root_.Go.Proofs.Try.infoI : (Try.prog.info? 3).map (fun i => (i.zero, i.size, i.bytes)) = some (some (.int .i64 0), 1, 8) := by kernel_rfl
theorem setCell_row {w : World} {O : List Int} {g cap n : Nat} {cur : List Value} {e : TypeId} (hg : w.heap[g]? = some (.cells cur.toArray e (0, 0))) (v : Value) (h : (cur.set 0 v).take n = O.map (Value.int .i64)) (hn : O.length = n) (hc : n ≤ cap) (hm : cap ≤ maxLen) (hl : cur.length = cap) :
    (w.setCell ⟨g, 0, none⟩ v).ownsRow 0 e 1 (.slice (some ⟨g, 0, none⟩) n cap) O.length (O.map (Value.int .i64)) := by
  refine ⟨by simp, .inr ⟨g, cap, (cur.set 0 v).toArray, by rw [hn], Nat.zero_le _, ?_, by omega, hm, by simp [hl], by rw [hn, Nat.mul_one]; exact h⟩⟩
  rw [heap_setCell_at hg, List.setIfInBounds_toArray]

/-- A row that is known whole. -/
structure Cur (w : World) (g cap n k : Nat) (cl : List Value) (O : List Int) : Prop where
  hg : w.heap[g]? = some (.cells cl.toArray 3 (0, 0))
  len : cl.length = cap
  tk : cl.take n = O.map (Value.int .i64)
  ln : O.length = n
  kn : k < n
  nc : n ≤ cap
  cm : cap ≤ maxLen
theorem Cur.cs {w : World} {g cap n k : Nat} {cl : List Value} {O : List Int} (h : Cur w g cap n k cl O) : (cl.take k).length = k := by
  have := h.len; have := h.kn; have := h.nc; rw [List.length_take]; omega
theorem Cur.sc {w : World} {g cap n k : Nat} {cl : List Value} {O : List Int} (h : Cur w g cap n k cl O) : ∀ j v, (cl.take k)[j]? = some v → w.cell? ((⟨g, 0, none⟩ : Addr).add j) = some v := by
  intro j v hj
  rw [List.getElem?_take] at hj
  split at hj
  · rw [Addr.add_lit, Nat.zero_add, cell_at h.hg]; simpa using hj
  · cases hj
theorem Cur.o1 {w : World} {g cap n k : Nat} {cl : List Value} {O : List Int} (h : Cur w g cap n k cl O) : ∀ v ∈ cl.take k, v.oneCell' = true := by
  intro v hv
  have h2 : v ∈ cl.take n := (List.take_sublist_take_left (Nat.le_of_lt h.kn)).subset hv
  rw [h.tk] at h2
  obtain ⟨z, _, rfl⟩ := List.mem_map.1 h2
  rfl
theorem Cur.of {w : World} {O : List Int} {ov : Value} {k : Nat} (h : w.ownsRow 0 3 1 ov O.length (O.map (Value.int .i64))) (hk : k < O.length) : ∃ g cap cl, ov = .slice (some ⟨g, 0, none⟩) O.length cap ∧ Cur w g cap O.length k cl O := by
  obtain ⟨g, cap, cur, rfl, hg, hc1, hc2, hc3, hc4⟩ := row_form h (by omega)
  exact ⟨g, cap, cur.toList, rfl, hg, by simpa using hc3, hc4, rfl, hk, hc1, hc2⟩
section
variable {w : World} {p bm : Nat} {src ov : Value} {m mi : Int} {O : List Int}
/-- Behind the copy and the store. -/
theorem use_end {w w2 : World} {g cap n k : Nat} {cl : List Value} {i : Int} (h : Raw w p bm src (.slice (some ⟨g, 0, none⟩) n cap) m mi O) (hc : Cur w g cap n k cl O) (hk : O.idxOf i = k)
    (hg2 : w2.heap[g]? = some (.cells (splice cl 1 (cl.take k)).toArray 3 (0, 0))) (ho : Only (fun j => j = g) w w2) :
    Raw (w2.setCell ⟨g, 0, none⟩ (.int .i64 i)) p bm src (.slice (some ⟨g, 0, none⟩) n cap) m mi (mv O i) ∧ Only (fun j => j = p ∨ j = g) w (w2.setCell ⟨g, 0, none⟩ (.int .i64 i)) := by
  have hpg : p ≠ g := fun e => h.rp (by rw [e]; rfl)
  have hl := hc.len; have hkn := hc.kn; have hnc := hc.nc; have hcs := hc.cs
  have hsl : (splice cl 1 (cl.take k)).length = cap := by rw [length_splice _ _ _ (by rw [hcs]; omega)]; exact hl
  have hml : (mv O i).length = n := by
    unfold mv; rw [List.length_cons, hk, List.length_eraseIdx, hc.ln, if_pos hkn]; omega
  refine ⟨⟨?_, ?_, h.rp⟩, ?_⟩
  · rw [Below.heap_setCell _ _ _ _ hpg, ho.block p h.lt hpg]; exact h.hp
  · have := setCell_row (O := mv O i) (cap := cap) (n := n) hg2 (.int .i64 i) (by
      rw [front_row cl k n _ hkn (by omega), hc.tk]
      unfold mv
      rw [List.map_cons, hk]
      congr 1
      exact (map_eraseIdx' _ _ _).symm) hml hnc hc.cm hsl
    exact this
  · exact (ho.mono (fun _ _ h => .inr h)).setCell (fun _ => .inr rfl) _
set_option maxRecDepth 100000 in
set_option maxHeartbeats 1000000 in
theorem use_yes (i : Int) (hl : O.length ≤ 5000) (h : Raw w p bm src ov m mi O) (hi : i ∈ O) :
    Calls Try.prog 40 #[.pointer (some ⟨p, 0, none⟩), .int .i64 i] w fun e w' => e = .returned (.tuple #[]) ∧ ∃ ov', Raw w' p bm src ov' m mi (mv O i) ∧ (∀ k, ov'.ownBlock = some k → ov.ownBlock = some k ∨ w.heap.size ≤ k) ∧ Only (fun k => k = p ∨ ov.ownBlock = some k) w w' := by
  obtain ⟨k, hk⟩ : ∃ k, O.idxOf i = k := ⟨_, rfl⟩
  have hlt : k < O.length := by rw [← hk]; exact List.idxOf_lt_length_of_mem hi
  obtain ⟨g, cap, cl, rfl, hC⟩ := Cur.of h.hr hlt
  have HI := Lib.hid (index_yes (i := i) h.hr hl hlt hk)
  have c3 := h.c3
  have hnc := hC.nc; have hcm := hC.cm
  obtain ⟨n, hn⟩ : ∃ n, O.length = n := ⟨_, rfl⟩
  rw [hn] at hlt c3 hl HI hC h hnc ⊢
  have HC := Lib.hid hC
  have HH := Lib.hid h
  have HK := Lib.hid hk
  have hpg : ¬ p = g := fun e => h.rp (by rw [e]; rfl)
  clear hn hC h hk
  have hz : ¬ (k : Int) < 0 := by omega
  have hn1 : (1 : Int) ≤ (n : Int) := by omega
  have hkn : (k : Int) ≤ (n : Int) := by omega
  have hkc : (k : Int) ≤ (cap : Int) := by omega
  have hk0 : (0 : Int) ≤ (k : Int) := by omega
  have hncz : (n : Int) ≤ (cap : Int) := by omega
  unfold maxLen at hcm
  have HX : Hid (∀ w2, Hid (w2.heap[g]? = some (.cells (splice cl 1 (cl.take k)).toArray 3 (0, 0))) → Hid (Only (fun j => j = g) w w2) → w2.cell? ⟨p, 3, none⟩ = some (.slice (some ⟨g, 0, none⟩) n cap) ∧ (∃ u, w2.cell? ⟨g, 0, none⟩ = some u) ∧ w2.frozen? ⟨g, 0, none⟩ = false) := by
    intro w2 hg2 ho
    refine ⟨(ho.out.cell (p := ⟨p, 3, none⟩) HH.out.lt hpg).trans HH.out.c3, ?_, free_at hg2.out 0⟩
    have hsl : (splice cl 1 (cl.take k)).length = cap := by rw [length_splice _ _ _ (by rw [HC.out.cs, HC.out.len]; omega)]; exact HC.out.len
    exact ⟨(splice cl 1 (cl.take k))[0]'(by rw [hsl]; omega), by rw [cell_at hg2.out]; simp⟩
  have HO : Hid (∀ w2, Only (fun k => k = g) w.drew w2 → Only (fun k => k = g) w w2) := fun w2 h => ⟨h.os, h.tape, h.output, h.size, h.block⟩
  rcases Decidable.em (cap = 1) with rfl | hcap
  · obtain rfl : n = 1 := by omega
    obtain rfl : k = 0 := by omega
    go_enter Try.func40, Try.ntmps40
    go_wp2_with fail
    refine HI.out.mono ?_
    rintro e w1 ⟨rfl, rfl⟩
    go_wp2
    go_still_tail 11, (by kernel_rfl)
    with_reducible refine wpList_copy_only rfl (.tmp 32) (.tmp 38) 43 43 ?_ 3 Try.underlying43 ?_ (some ⟨g, 0, none⟩) (some ⟨g, 0, none⟩) 0 0 0 1 ?_ ?_ g 1 cl 3 ?_ (cl.take 0) ?_ ?_ ?_ HC.out.o1 ?_
    case refine_1 => rfl
    case refine_2 => kernel_rfl
    case refine_3 => rfl
    case refine_4 => rfl
    case refine_5 => exact HC.out.hg
    case refine_6 => rfl
    case refine_7 => intro h0; simp at h0
    case refine_8 => rw [HC.out.cs, HC.out.len]; omega
    intro w2 hg2 ho2
    obtain ⟨d3, ⟨u, d0⟩, df⟩ := HX.out w2 hg2 (HO.out w2 ho2.out)
    clear c3
    go_wp2
    go_end0
    obtain ⟨r1, r2⟩ := use_end HH.out HC.out HK.out hg2.out (HO.out w2 ho2.out)
    exact ⟨rfl, _, r1, fun j hj => .inl hj, r2.mono (fun j _ hj => hj.imp id (fun e => by rw [e]; rfl))⟩
  · go_enter Try.func40, Try.ntmps40
    go_wp2_with fail
    refine HI.out.mono ?_
    rintro e w1 ⟨rfl, rfl⟩
    go_wp2
    go_still_tail 11, (by kernel_rfl)
    with_reducible refine wpList_copy_only rfl (.tmp 32) (.tmp 38) 43 43 ?_ 3 Try.underlying43 ?_ (some ⟨g, 1, none⟩) (some ⟨g, 0, none⟩) (n - 1) (cap - 1) k cap ?_ ?_ g 1 cl 3 ?_ (cl.take k) ?_ ?_ ?_ HC.out.o1 ?_
    case refine_1 => rfl
    case refine_2 => kernel_rfl
    case refine_3 => rfl
    case refine_4 => rfl
    case refine_5 => exact HC.out.hg
    case refine_6 => rw [HC.out.cs]; show k = min k (n - 1); omega
    case refine_7 => intro h0; rw [HC.out.cs] at h0; exact ⟨rfl, _, rfl, HC.out.sc⟩
    case refine_8 => rw [HC.out.cs, HC.out.len]; omega
    intro w2 hg2 ho2
    obtain ⟨d3, ⟨u, d0⟩, df⟩ := HX.out w2 hg2 (HO.out w2 ho2.out)
    clear c3
    go_wp2
    go_end0
    obtain ⟨r1, r2⟩ := use_end HH.out HC.out HK.out hg2.out (HO.out w2 ho2.out)
    exact ⟨rfl, _, r1, fun j hj => .inl hj, r2.mono (fun j _ hj => hj.imp id (fun e => by rw [e]; rfl))⟩

theorem Raw.pushed {w w2 : World} {p bm : Nat} {src ov v' : Value} {m mi i : Int} {O : List Int} {o : Obj} (h : Raw w p bm src ov m mi O) (hown : w2.ownsRow 0 3 1 v' (O.length + 1) (O.map (Value.int .i64) ++ [.int .i64 i])) (hg : (w.alloc o).grownBy w2 ov.ownBlock)
    (hwh : ∀ k, v'.ownBlock = some k → ov.ownBlock = some k ∨ (w.alloc o).heap.size ≤ k) :
    w2.cell? ⟨p, 3, none⟩ = some ov ∧ w2.frozen? ⟨p, 3, none⟩ = false ∧ Raw (w2.setCell ⟨p, 3, none⟩ v') p bm src v' m mi (O ++ [i]) ∧ Only (fun k => k = p ∨ ov.ownBlock = some k) w (w2.setCell ⟨p, 3, none⟩ v') := by
  have hlt := h.lt
  have hsz : (w.alloc o).heap.size = w.heap.size + 1 := by simp
  have hp2 : w2.heap[p]? = w.heap[p]? := (hg.block p (by omega) (fun e => h.rp e.symm)).trans (Below.heap_alloc _ _ _ hlt)
  have np : v'.ownBlock ≠ some p := fun e => by
    rcases hwh p e with h' | h'
    · exact h.rp h'
    · omega
  refine ⟨by rw [cell_at (hp2.trans h.hp)]; rfl, free_at (hp2.trans h.hp) 3, ⟨?_, ?_, np⟩, ?_⟩
  · rw [heap_setCell_at (hp2.trans h.hp)]; rfl
  · have e : (O ++ [i]).map (Value.int .i64) = O.map (Value.int .i64) ++ [.int .i64 i] := by simp
    rw [List.length_append, e]
    exact ownsRow_setCell_other hown (by simpa using np) _
  · refine Only.setCell ?_ (fun _ => .inl rfl) _
    exact ((Only.refl _ w).alloc o).trans (T := fun k => some k = ov.ownBlock) ⟨hg.os, hg.tape, hg.output, hg.size, fun k hk hne => hg.block k hk hne⟩ (fun k _ hk => .inr hk.symm)
theorem idx_snoc {O : List Int} {i : Int} (h : i ∉ O) : (O ++ [i]).idxOf i = O.length := by
  rw [List.idxOf_append, if_neg h]; simp
theorem mv_snoc {O : List Int} {i : Int} (h : i ∉ O) : mv (O ++ [i]) i = mv O i := by
  unfold mv
  rw [idx_snoc h, List.idxOf_eq_length h, List.eraseIdx_of_length_le (Nat.le_refl _)]
  rw [List.eraseIdx_append_of_length_le (Nat.le_refl _)]; simp
set_option maxRecDepth 100000 in
set_option maxHeartbeats 1000000 in
theorem use_no (i : Int) (hl : O.length ≤ 5000) (h : Raw w p bm src ov m mi O) (hi : i ∉ O) :
    Calls Try.prog 40 #[.pointer (some ⟨p, 0, none⟩), .int .i64 i] w fun e w' => e = .returned (.tuple #[]) ∧ ∃ ov', Raw w' p bm src ov' m mi (mv O i) ∧ (∀ k, ov'.ownBlock = some k → ov.ownBlock = some k ∨ w.heap.size ≤ k) ∧ Only (fun k => k = p ∨ ov.ownBlock = some k) w w' := by
  obtain ⟨ao, cap0, hov⟩ := own_shape h.hr
  have HI := Lib.hid (index_no (i := i) h.hr hl hi)
  have c3 := h.c3
  have hle := h.lt
  obtain ⟨n, hn⟩ : ∃ n, O.length = n := ⟨_, rfl⟩
  have HR := Lib.hid h.hr
  have HPU := Lib.hid (fun w2 v' o => Raw.pushed (w2 := w2) (v' := v') (i := i) (o := o) h)
  have hn' := hn
  rw [hn] at hov hl
  have HN := Lib.hid hn; clear hn hn'
  have HH := Lib.hid h; clear h
  have HNI := Lib.hid hi; clear hi
  have HOV := Lib.hid hov
  rw [hov] at c3 HI
  clear hov
  obtain ⟨i0, hi, hz0, hz1, hz2⟩ := info_parts Try.infoI
  go_enter Try.func40, Try.ntmps40
  go_wp2_with fail
  refine HI.out.mono ?_
  rintro e w1 ⟨rfl, rfl⟩
  go_wp2_with (at_builtin; refine wpList_append_where _ rfl _ _ 43 rfl 0 3 i0 _ 1 8 Try.underlying43 hi hz0 hz1 hz2 rfl (by decide) _ n (O.map (Value.int .i64)) rfl ?c0 ⟨w.heap.size, 0, none⟩ 1 1 [.int .i64 i] rfl rfl ?c1 ?c2 ?c3 ?c4 ?c5 ?_)
  case c0 => have := HR.out.alloc (.cells #[.int .i64 i] 3); rw [HN.out, HOV.out] at this; exact this
  case c1 =>
    intro j u hj
    match j, hj with
    | 0, hj => simp at hj; subst hj; simp [Addr.add]
  case c2 => intro u hu; simp at hu; subst hu; rfl
  case c3 => unfold maxLen; omega
  case c4 => omega
  case c5 => exact Nat.zero_le _
  intro v' w2 hown hgrow hwh
  obtain ⟨g, cap, rfl⟩ := own_succ hown
  have hp := HPU.out w2 (.slice (some ⟨g, 0, none⟩) (n + 1) cap) (.cells #[.int .i64 i] 3) (by rw [HN.out]; exact hown) (by rw [HOV.out]; exact hgrow) (by intro k hk; rw [HOV.out]; have := hwh k hk; simpa using this)
  have hlo : (O ++ [i]).length = n + 1 := by have := HN.out; simp [this]
  have hcu := Cur.of (k := n) (by have := hp.2.2.1.hr; exact this) (by rw [hlo]; omega)
  rw [hlo] at hcu
  obtain ⟨g', cap', cl, hv, hC⟩ := hcu
  obtain ⟨rfl, rfl⟩ : g = g' ∧ cap = cap' := by simpa using hv
  have hnc := hC.nc; have hcm := hC.cm
  have c3' : w2.cell? ⟨p, 3, none⟩ = some (.slice ao n cap0) := by rw [hp.1, HOV.out]
  have f3' := hp.2.1
  have HRA := Lib.hid hp.2.2.1
  have HOA := Lib.hid hp.2.2.2
  have HWH : Hid (∀ k, (Value.slice (some ⟨g, 0, none⟩) (n + 1) cap).ownBlock = some k → ov.ownBlock = some k ∨ w.heap.size ≤ k) := by
    intro k hk
    rcases hwh k hk with h | h
    · left; rw [HOV.out]; exact h
    · right; omega
  have HC := Lib.hid hC
  have hk : (O ++ [i]).idxOf i = n := by rw [idx_snoc HNI.out, HN.out]
  have HK := Lib.hid hk
  have hpg : ¬ p = g := fun e => hp.2.2.1.rp (by rw [e]; rfl)
  clear hp hlo hC hv hwh hgrow hown c3 hk
  have hz : ¬ (n : Int) < 0 := by omega
  have hn1 : (1 : Int) ≤ (n : Int) + 1 := by omega
  have hkn : (n : Int) ≤ (n : Int) + 1 := by omega
  have hkc : (n : Int) ≤ (cap : Int) := by omega
  have hk0 : (0 : Int) ≤ (n : Int) := by omega
  have hncz : ((n : Int) + 1) ≤ (cap : Int) := by omega
  unfold maxLen at hcm
  go_wp2
  generalize hWA : w2.setCell ⟨p, 3, none⟩ (.slice (some ⟨g, 0, none⟩) (n + 1) cap) = WA at *
  have cA := HRA.out.c3
  have HO : Hid (∀ w2, Only (fun k => k = g) WA.drew w2 → Only (fun k => k = g) WA w2) := fun w2 h => ⟨h.os, h.tape, h.output, h.size, h.block⟩
  have HX : Hid (∀ w2, Hid (w2.heap[g]? = some (.cells (splice cl 1 (cl.take n)).toArray 3 (0, 0))) → Hid (Only (fun j => j = g) WA w2) → w2.cell? ⟨p, 3, none⟩ = some (.slice (some ⟨g, 0, none⟩) (n + 1) cap) ∧ (∃ u, w2.cell? ⟨g, 0, none⟩ = some u) ∧ w2.frozen? ⟨g, 0, none⟩ = false) := by
    intro w2 hg2 ho
    refine ⟨(ho.out.cell (p := ⟨p, 3, none⟩) HRA.out.lt hpg).trans HRA.out.c3, ?_, free_at hg2.out 0⟩
    have hsl : (splice cl 1 (cl.take n)).length = cap := by rw [length_splice _ _ _ (by rw [HC.out.cs, HC.out.len]; omega)]; exact HC.out.len
    exact ⟨(splice cl 1 (cl.take n))[0]'(by rw [hsl]; omega), by rw [cell_at hg2.out]; simp⟩
  have HWA := Lib.hid hWA
  clear c3' f3' hWA
  rcases Decidable.em (cap = 1) with rfl | hcap
  · obtain rfl : n = 0 := by omega
    go_still_tail 11, (by kernel_rfl)
    with_reducible refine wpList_copy_only rfl (.tmp 32) (.tmp 38) 43 43 ?_ 3 Try.underlying43 ?_ (some ⟨g, 0, none⟩) (some ⟨g, 0, none⟩) 0 0 0 1 ?_ ?_ g 1 cl 3 ?_ (cl.take 0) ?_ ?_ ?_ HC.out.o1 ?_
    case refine_1 => rfl
    case refine_2 => kernel_rfl
    case refine_3 => rfl
    case refine_4 => rfl
    case refine_5 => exact HC.out.hg
    case refine_6 => rfl
    case refine_7 => intro h0; simp at h0
    case refine_8 => rw [HC.out.cs, HC.out.len]; omega
    intro w3 hg2 ho2
    obtain ⟨d3, ⟨u, d0⟩, df⟩ := HX.out w3 hg2 (HO.out w3 ho2.out)
    clear cA
    go_wp2
    go_end0
    obtain ⟨r1, r2⟩ := use_end HRA.out HC.out HK.out hg2.out (HO.out w3 ho2.out)
    rw [mv_snoc HNI.out] at r1
    refine ⟨rfl, _, r1, HWH.out, (HOA.out.trans r2 ?_)⟩
    rintro j hj (rfl | rfl)
    · exact .inl rfl
    · rcases HWH.out _ rfl with h | h
      · exact .inr h
      · have h' : w.heap.size ≤ j := h
        omega
  · skip
    go_still_tail 11, (by kernel_rfl)
    with_reducible refine wpList_copy_only rfl (.tmp 32) (.tmp 38) 43 43 ?_ 3 Try.underlying43 ?_ (some ⟨g, 1, none⟩) (some ⟨g, 0, none⟩) (n + 1 - 1) (cap - 1) n cap ?_ ?_ g 1 cl 3 ?_ (cl.take n) ?_ ?_ ?_ HC.out.o1 ?_
    case refine_1 => rfl
    case refine_2 => kernel_rfl
    case refine_3 => rfl
    case refine_4 => rfl
    case refine_5 => exact HC.out.hg
    case refine_6 => rw [HC.out.cs]; show n = min n (n + 1 - 1); omega
    case refine_7 => intro h0; exact ⟨rfl, _, rfl, HC.out.sc⟩
    case refine_8 => rw [HC.out.cs, HC.out.len]; omega
    intro w3 hg2 ho2
    obtain ⟨d3, ⟨u, d0⟩, df⟩ := HX.out w3 hg2 (HO.out w3 ho2.out)
    clear cA
    go_wp2
    go_end0
    obtain ⟨r1, r2⟩ := use_end HRA.out HC.out HK.out hg2.out (HO.out w3 ho2.out)
    rw [mv_snoc HNI.out] at r1
    refine ⟨rfl, _, r1, HWH.out, (HOA.out.trans r2 ?_)⟩
    rintro j hj (rfl | rfl)
    · exact .inl rfl
    · rcases HWH.out _ rfl with h | h
      · exact .inr h
      · have h' : w.heap.size ≤ j := h
        omega
theorem use_any (i : Int) (hl : O.length ≤ 5000) (h : Raw w p bm src ov m mi O) :
    Calls Try.prog 40 #[.pointer (some ⟨p, 0, none⟩), .int .i64 i] w fun e w' => e = .returned (.tuple #[]) ∧ ∃ ov', Raw w' p bm src ov' m mi (mv O i) ∧ (∀ k, ov'.ownBlock = some k → ov.ownBlock = some k ∨ w.heap.size ≤ k) ∧ Only (fun k => k = p ∨ ov.ownBlock = some k) w w' := by
  by_cases hi : i ∈ O
  · exact use_yes i hl h hi
  · exact use_no i hl h hi
end
end Go.Proofs.Yteeoglfgilabaaa
