/- Folded's 'b = append(b, s[at])' inside a round: in whatever order its operations come up, the row has one byte more. -/
import Derived.Test.YtbblmpibekkbfaaDoorRInv
import Derived.Test.YtbblmpibekkbfaaDoorUFoldD
namespace Go.Proofs.YtbblmpibekkbfaaDoor
open Go.RowKit
open Fr (ownSlots waitsOf backwards all_up shapeOf shape_at shape_is left_set left_new)

def appShape : List (Option Tmp × Op × Bool) := [
  (some 15, .load 43 (.tmp 3), true), (some 16, .load 9 (.tmp 1), true), (some 17, .move (.tmp 4), true), (some 18, .index 9 (.tmp 16) (.tmp 17), true),
  (some 19, .buildSlice 43 1 #[(0, .tmp 18)], true), (some 20, .call { callee := .builtin .append, args := #[.tmp 15, .tmp 19], argTypes := #[43, 43] }, true), (none, .store 43 (.tmp 3) (.tmp 20), true)]
def AppW (W2 w3 : World) (B2 : Nat) (v' : Value) (blk : Obj) (listed : Array Bool) (w : World) : Prop :=
  (listed.getD 4 false = false ∧ listed.getD 5 false = false ∧ listed.getD 6 false = false ∧ w = W2.drew) ∨ (listed.getD 4 false = true ∧ listed.getD 5 false = false ∧ listed.getD 6 false = false ∧ w = W2.drew.alloc blk) ∨
  (listed.getD 4 false = true ∧ listed.getD 5 false = true ∧ listed.getD 6 false = false ∧ listed.getD 0 false = true ∧ w = w3) ∨ (listed.getD 4 false = true ∧ listed.getD 5 false = true ∧ listed.getD 6 false = true ∧ listed.getD 0 false = true ∧ w = w3.setCell ⟨B2, 0, none⟩ v')
theorem still_listed {listed : Array Bool} {i j : Nat} (h : listed.getD j false = true) : (listed.setIfInBounds i true).getD j false = true := by
  by_cases e : j = i
  · subst e
    refine listed_set ?_
    rw [Array.getD_eq_getD_getElem?] at h
    by_cases hl : j < listed.size
    · exact hl
    · simp [hl] at h
  · rw [getD_other e]; exact h
theorem AppW.keep {W2 w3 w : World} {B2 : Nat} {v' : Value} {blk : Obj} {listed : Array Bool} (h : AppW W2 w3 B2 v' blk listed w) {i : Nat} (h4 : i ≠ 4) (h5 : i ≠ 5) (h6 : i ≠ 6) : AppW W2 w3 B2 v' blk (listed.setIfInBounds i true) w := by
  unfold AppW at h ⊢
  rw [getD_other (Ne.symm h4), getD_other (Ne.symm h5), getD_other (Ne.symm h6)]
  rcases h with h | h | ⟨a1, a2, a3, a4, a5⟩ | ⟨a1, a2, a3, a4, a5⟩
  · exact .inl h
  · exact .inr (.inl h)
  · exact .inr (.inr (.inl ⟨a1, a2, a3, still_listed a4, a5⟩))
  · exact .inr (.inr (.inr ⟨a1, a2, a3, still_listed a4, a5⟩))
section
variable {l n : Nat} {ops : Array Oper} {Q : Exit → Act → World → Prop} {W2 w3 : World} {B1 B2 p : Nat} {s : ByteArray} {v v' : Value} {bt : Int} {T : Array Value} {base : List Nat}
set_option maxRecDepth 100000 in
set_option maxHeartbeats 2000000 in
theorem app_region {id : Nat} {a : Act} (hm : Tryd.prog.follows .mixedOrders = true) (hsh : ops.toList.map shapeOf = appShape) (htp : ops.toList.map (·.type) = [43, 9, 3, 5, 43, 43, 0]) (hown : ownSlots ops base T.size = true) (hback : backwards ops = true)
    (hw1 : waitsOf ops 3 1 = true) (hw2 : waitsOf ops 3 2 = true) (hw3 : waitsOf ops 4 3 = true) (hw4 : waitsOf ops 5 0 = true) (hw5 : waitsOf ops 5 4 = true) (hw6 : waitsOf ops 6 5 = true)
    (hb1 : 1 ∈ base) (hb3 : 3 ∈ base) (hb4 : 4 ∈ base)
    (T1 : T.getD 1 undef = .pointer (some ⟨B1, 0, none⟩)) (T3 : T.getD 3 undef = .pointer (some ⟨B2, 0, none⟩)) (T4 : T.getD 4 undef = .int .i64 (p : Int)) (T15 : T.getD 15 undef = v) (T16 : T.getD 16 undef = .string s) (T17 : T.getD 17 undef = .int .i64 (p : Int)) (T18 : T.getD 18 undef = .int .u8 bt) (T19 : T.getD 19 undef = .slice (some ⟨W2.heap.size, 0, none⟩) 1 1) (T20 : T.getD 20 undef = v')
    (ha : a.tmps.size = T.size) (hdf : a.defers = []) (hba : ∀ d ∈ base, a.tmps.getD d undef = T.getD d undef)
    (hp : p < s.size) (hbt : ((s[p]).toNat : Int) = bt) (c1 : W2.cell? ⟨B1, 0, none⟩ = some (.string s)) (c2 : W2.cell? ⟨B2, 0, none⟩ = some v) (hvc : v.cells.size = 1)
    (hrun : (Builtin.append_ #[43, 43] 43 #[v, .slice (some ⟨W2.heap.size, 0, none⟩) 1 1]).run Tryd.prog (W2.drew.alloc (.cells #[.int .u8 bt] 5)) = .ok v' w3)
    (hB12 : B1 ≠ B2) (c13 : w3.cell? ⟨B1, 0, none⟩ = some (.string s)) (c3 : ∃ u, w3.cell? ⟨B2, 0, none⟩ = some u) (f3 : w3.frozen? ⟨B2, 0, none⟩ = false) (hsl : ∃ g len cap, v' = .slice (some ⟨g, 0, none⟩) len cap) :
    (Code.region id ops true).wpIn (Fence.wide.inRound l) n Tryd.prog (fun e _ w' => e = .normal ∧ w' = w3.setCell ⟨B2, 0, none⟩ v') a W2 := by
  have hsz : ops.size = 7 := by have := congrArg List.length hsh; simpa [appShape] using this
  obtain ⟨gg, len, cap, rfl⟩ := hsl
  refine wpIn_region_inv hm (fun listed a w => Fm ops T base listed a ∧ AppW W2 w3 B2 (.slice (some ⟨gg, 0, none⟩) len cap) (.cells #[.int .u8 bt] 5) listed w) ⟨⟨ha, hdf, hba, fun i o d hi hl => ?_, by simp⟩, .inl ⟨rep_getD _ _, rep_getD _ _, rep_getD _ _, rfl⟩⟩ ?_ ?_
  · have hlt := (Array.getElem?_eq_some_iff.1 hi).1
    simp [hlt] at hl
  · rintro listed a w ⟨h, hW⟩ i hr
    obtain ⟨hun, o, ho, hready⟩ := mem_ready.1 hr
    have hlt : i < 7 := by have := (Array.getElem?_eq_some_iff.1 ho).1; omega
    have nodef : ∀ {op : Op}, o.op = op → (∀ c, op ≠ .defer c) → ∀ c, o.op ≠ .defer c := fun e h c => by rw [e]; exact h c
    have val : ∀ {d : Nat} {op : Op} {u : Value}, appShape[i]? = some (some d, op, true) → (∀ c, op ≠ .defer c) → (o.op = op → (execOp a.eval o).run Tryd.prog w = .ok (.value u) w) → u = T.getD d undef → i ≠ 4 → i ≠ 5 → i ≠ 6 →
        wpOpIn (Fence.wide.inRound l) n Tryd.prog ops (fun e _ w' => e = .normal ∧ w' = w3.setCell ⟨B2, 0, none⟩ (.slice (some ⟨gg, 0, none⟩) len cap)) i (fun a' w' => Fm ops T base (listed.setIfInBounds i true) a' ∧ AppW W2 w3 B2 (.slice (some ⟨gg, 0, none⟩) len cap) (.cells #[.int .u8 bt] 5) (listed.setIfInBounds i true) w') a w := by
      intro d op u hl hnd hr hv h4 h5 h6
      obtain ⟨e1, e2, e3⟩ := shape_is hsh ho hl
      exact stepIn_val ho e3 (nodef e2 hnd) (hr e2) ⟨h.put hown ho e1 hv, hW.keep h4 h5 h6⟩
    have hty : ∀ t, ([43, 9, 3, 5, 43, 43, 0] : List Nat)[i]? = some t → o.type = t := fun t ht => by
      rw [← htp, List.getElem?_map, Array.getElem?_toList, ho] at ht
      simpa using ht
    match i, hlt with
    | 0, _ =>
      refine val (d := 15) (u := v) rfl (fun c => by simp) (fun hop => ?_) T15.symm (by omega) (by omega) (by omega)
      have hv : a.tmps.getD 3 undef = .pointer (some ⟨B2, 0, none⟩) := (h.base 3 hb3).trans T3
      have cw : w.cell? ⟨B2, 0, none⟩ = some v := by
        rcases hW with ⟨_, _, _, rfl⟩ | ⟨_, _, _, rfl⟩ | ⟨_, _, _, h', _⟩ | ⟨_, _, _, h', _⟩
        · exact c2
        · exact (((Below.refl W2.heap.size W2).drew.alloc (Nat.le_refl _) _).cell (p := ⟨B2, 0, none⟩) (World.block_lt_of_cell? W2 _ c2)).trans c2
        · rw [not_listed hun] at h'; cases h'
        · rw [not_listed hun] at h'; cases h'
      unfold execOp; simp only [hop, Act.eval]; rw [hv]
      go_simp
    | 1, _ =>
      refine val (d := 16) (u := .string s) rfl (fun c => by simp) (fun hop => ?_) T16.symm (by omega) (by omega) (by omega)
      have hv : a.tmps.getD 1 undef = .pointer (some ⟨B1, 0, none⟩) := (h.base 1 hb1).trans T1
      have cw : w.cell? ⟨B1, 0, none⟩ = some (.string s) := by
        rcases hW with ⟨_, _, _, rfl⟩ | ⟨_, _, _, rfl⟩ | ⟨_, _, _, _, rfl⟩ | ⟨_, _, _, _, rfl⟩
        · exact c1
        · exact (((Below.refl W2.heap.size W2).drew.alloc (Nat.le_refl _) _).cell (p := ⟨B1, 0, none⟩) (World.block_lt_of_cell? W2 _ c1)).trans c1
        · exact c13
        · rw [World.cell?_setCell_other _ _ _ _ (by intro e; have he := congrArg Addr.block e; first | exact hB12 he | exact hB12 he.symm)]; exact c13
      unfold execOp; simp only [hop, Act.eval]; rw [hv]
      go_simp
    | 2, _ =>
      refine val (d := 17) (u := .int .i64 (p : Int)) rfl (fun c => by simp) (fun hop => ?_) T17.symm (by omega) (by omega) (by omega)
      have hv : a.tmps.getD 4 undef = .int .i64 (p : Int) := (h.base 4 hb4).trans T4
      unfold execOp; simp only [hop, Act.eval]; rw [hv]
      go_simp
    | 3, _ =>
      refine val (d := 18) (u := .int .u8 bt) rfl (fun c => by simp) (fun hop => ?_) T18.symm (by omega) (by omega) (by omega)
      have hv1 : a.tmps.getD 16 undef = .string s := (h.seen hsh hr 1 rfl hw1).trans T16
      have hv2 : a.tmps.getD 17 undef = .int .i64 (p : Int) := (h.seen hsh hr 2 rfl hw2).trans T17
      have g0 : (0 : Int) ≤ (p : Int) := by omega
      have g1 : (p : Int) < (s.size : Int) := by omega
      unfold execOp; simp only [hop, Act.eval]; rw [hv1, hv2]
      rw [← hbt]
      go_simp
    | 4, _ =>
      obtain ⟨e1, e2, e3⟩ := shape_is hsh ho (d := 19) (op := .buildSlice 43 1 #[(0, .tmp 18)]) rfl
      have hv : a.tmps.getD 18 undef = .int .u8 bt := (h.seen hsh hr 3 rfl hw3).trans T18
      obtain ⟨h4, h5, h6, rfl⟩ : listed.getD 4 false = false ∧ listed.getD 5 false = false ∧ listed.getD 6 false = false ∧ w = W2.drew := by
        rcases hW with h' | ⟨h', _⟩ | ⟨h', _⟩ | ⟨h', _⟩
        · exact h'
        · rw [not_listed hun] at h'; cases h'
        · rw [not_listed hun] at h'; cases h'
        · rw [not_listed hun] at h'; cases h'
      refine stepIn_val ho e3 (nodef e2 (fun c => by simp)) (w' := W2.drew.alloc (.cells #[.int .u8 bt] 5)) (v := .slice (some ⟨W2.heap.size, 0, none⟩) 1 1) ?_ ⟨h.put hown ho e1 T19.symm, .inr (.inl ⟨?_, ?_, ?_, rfl⟩)⟩
      · unfold execOp; simp only [e2, Act.eval, List.map_toArray, List.map_cons, List.map_nil, hv]
        go_simp
      · exact listed_set (by rw [h.lsize]; omega)
      · rw [getD_other (by omega)]; exact h5
      · rw [getD_other (by omega)]; exact h6
    | 5, _ =>
      obtain ⟨e1, e2, e3⟩ := shape_is hsh ho (d := 20) (op := .call { callee := .builtin .append, args := #[.tmp 15, .tmp 19], argTypes := #[43, 43] }) rfl
      have hv1 : a.tmps.getD 15 undef = v := (h.seen hsh hr 0 rfl hw4).trans T15
      have hv2 : a.tmps.getD 19 undef = .slice (some ⟨W2.heap.size, 0, none⟩) 1 1 := (h.seen hsh hr 4 rfl hw5).trans T19
      have ht := hty 43 rfl
      obtain ⟨h4, h5, h6, rfl⟩ : listed.getD 4 false = true ∧ listed.getD 5 false = false ∧ listed.getD 6 false = false ∧ w = W2.drew.alloc (.cells #[.int .u8 bt] 5) := by
        rcases hW with ⟨h', _⟩ | h' | ⟨_, h', _⟩ | ⟨_, h', _⟩
        · rw [wait_listed hr hw5] at h'; cases h'
        · exact h'
        · rw [not_listed hun] at h'; cases h'
        · rw [not_listed hun] at h'; cases h'
      refine stepIn_val ho e3 (nodef e2 (fun c => by simp)) (w' := w3) (v := .slice (some ⟨gg, 0, none⟩) len cap) ?_ ⟨h.put hown ho e1 T20.symm, .inr (.inr (.inl ⟨?_, ?_, ?_, ?_, rfl⟩))⟩
      · unfold execOp
        simp only [e2, resolve, invoke, builtin, Act.eval, List.map_toArray, List.map_cons, List.map_nil, hv1, hv2, ht, Sem.run_bind, Sem.run_pure, Result.andThen_ok, hrun]
      · rw [getD_other (by omega)]; exact h4
      · exact listed_set (by rw [h.lsize]; omega)
      · rw [getD_other (by omega)]; exact h6
      · rw [getD_other (by omega)]; exact wait_listed hr hw4
    | 6, _ =>
      obtain ⟨e1, e2, e3⟩ : o.dst = none ∧ o.op = .store 43 (.tmp 3) (.tmp 20) ∧ o.guard = none := by
        have := shape_at hsh ho
        simp only [appShape, List.getElem?_cons_succ, List.getElem?_cons_zero, Option.some.injEq, Prod.mk.injEq] at this
        exact ⟨this.1.symm, this.2.1.symm, Option.isNone_iff_eq_none.1 this.2.2.symm⟩
      have hv1 : a.tmps.getD 3 undef = .pointer (some ⟨B2, 0, none⟩) := (h.base 3 hb3).trans T3
      have hv2 : a.tmps.getD 20 undef = .slice (some ⟨gg, 0, none⟩) len cap := (h.seen hsh hr 5 rfl hw6).trans T20
      have h5 := wait_listed hr hw6
      obtain ⟨h4, h0, rfl⟩ : listed.getD 4 false = true ∧ listed.getD 0 false = true ∧ w = w3 := by
        rcases hW with ⟨_, h', _⟩ | ⟨_, h', _⟩ | ⟨h4, _, _, h0, h'⟩ | ⟨_, _, h', _⟩
        · rw [h5] at h'; cases h'
        · rw [h5] at h'; cases h'
        · exact ⟨h4, h0, h'⟩
        · rw [not_listed hun] at h'; cases h'
      obtain ⟨u, cu⟩ := c3
      refine stepIn_skip ho e3 (nodef e2 (fun c => by simp)) (w' := w.setCell ⟨B2, 0, none⟩ (.slice (some ⟨gg, 0, none⟩) len cap)) ?_ ⟨h.none ho e1 _, .inr (.inr (.inr ⟨?_, ?_, listed_set (by rw [h.lsize]; omega), ?_, rfl⟩))⟩
      · unfold execOp; simp only [e2, Act.eval, hv1, hv2]
        go_simp
      · rw [getD_other (by omega)]; exact h4
      · rw [getD_other (by omega)]; exact h5
      · rw [getD_other (by omega)]; exact h0
  · rintro listed a w ⟨h, hW⟩ hr
    have hup := all_up hback h.lsize hr
    refine ⟨rfl, ?_⟩
    rcases hW with ⟨_, _, h6, _⟩ | ⟨_, _, h6, _⟩ | ⟨_, _, h6, _⟩ | ⟨_, _, _, _, h'⟩
    · rw [hup 6 (by omega)] at h6; cases h6
    · rw [hup 6 (by omega)] at h6; cases h6
    · rw [hup 6 (by omega)] at h6; cases h6
    · exact h'
end
end Go.Proofs.YtbblmpibekkbfaaDoor
