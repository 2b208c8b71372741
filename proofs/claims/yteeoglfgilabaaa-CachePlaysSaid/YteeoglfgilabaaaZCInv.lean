/- A region that draws its order inside a round, by an invariant; and the one of makeRoom. -/
import Derived.Test.YteeoglfgilabaaaZWInv
import Derived.Test.YteeoglfgilabaaaZCBack
import Derived.IntWalk

namespace Go.Proofs.Yteeoglfgilabaaa
open Go.RowKit
open Fr (ownSlots waitsOf backwards all_up shapeOf shape_at shape_is left_set left_new)

section
variable {F : Fence} {n : Nat} {P : Program} {ops : Array Oper} {Q : Exit → Act → World → Prop}
theorem wpAnyIn_inv (I : Array Bool → Act → World → Prop)
    (hstep : ∀ listed a w, I listed a w → ∀ i ∈ Region.ready .any ops listed, wpOpIn F n P ops Q i (fun a' w' => I (listed.setIfInBounds i true) a' w') a w)
    (hend : ∀ listed a w, I listed a w → Region.ready .any ops listed = [] → Q .normal a w) :
    ∀ (fuel : Nat) (listed : Array Bool) (a : Act) (w : World), Fr.left listed ≤ fuel → I listed a w → wpAnyIn F n P .any ops Q fuel listed a w := by
  intro fuel
  induction fuel with
  | zero =>
    intro listed a w hl hI
    have hr : Region.ready .any ops listed = [] := by
      apply List.eq_nil_iff_forall_not_mem.2
      intro i hi
      have := left_set (mem_ready.1 hi).1
      omega
    exact ⟨hr, hend _ _ _ hI hr⟩
  | succ fuel ih =>
    intro listed a w hl hI
    refine ⟨hend _ _ _ hI, fun i hi => ?_⟩
    have hlt := left_set (mem_ready.1 hi).1
    exact wpOpIn_mono (fun a' w' h => ih _ a' w' (by omega) h) (hstep _ _ _ hI i hi)
theorem wpIn_region_inv {id : Nat} {a : Act} {w : World} (hm : P.follows .mixedOrders = true) (I : Array Bool → Act → World → Prop) (h0 : I (Array.replicate ops.size false) a { w with drawn := w.drawn + 1 })
    (hstep : ∀ listed a w, I listed a w → ∀ i ∈ Region.ready .any ops listed, wpOpIn F n P ops Q i (fun a' w' => I (listed.setIfInBounds i true) a' w') a w)
    (hend : ∀ listed a w, I listed a w → Region.ready .any ops listed = [] → Q .normal a w) : (Code.region id ops true).wpIn F n P Q a w :=
  wpIn_region_any hm (wpAnyIn_inv I hstep hend _ _ _ _ (by rw [left_new]; exact Nat.le_refl _) h0)
end

section
variable {l n : Nat} {P : Program} {ops : Array Oper} {Q : Exit → Act → World → Prop}
theorem stepIn_val {i : Nat} {o : Oper} {K : Act → World → Prop} {a : Act} {w w' : World} {v : Value} (hi : ops[i]? = some o) (hg : o.guard = none) (hd : ∀ c, o.op ≠ .defer c) (hr : (execOp a.eval o).run P w = .ok (.value v) w') (h : K (a.put o.dst v) w') : wpOpIn (Fence.wide.inRound l) n P ops Q i K a w := by
  unfold wpOpIn
  simp only [hi, Region.wanted, hg, if_true]
  refine ⟨fun _ _ => trivial, ?_⟩
  rw [Oper.semAt_eq _ _ _ hd, hr]
  exact h
theorem stepIn_skip {i : Nat} {o : Oper} {K : Act → World → Prop} {a : Act} {w w' : World} (hi : ops[i]? = some o) (hg : o.guard = none) (hd : ∀ c, o.op ≠ .defer c) (hr : (execOp a.eval o).run P w = .ok .skip w') (h : K (a.put o.dst undef) w') : wpOpIn (Fence.wide.inRound l) n P ops Q i K a w := by
  unfold wpOpIn
  simp only [hi, Region.wanted, hg, if_true]
  refine ⟨fun _ _ => trivial, ?_⟩
  rw [Oper.semAt_eq _ _ _ hd, hr]
  exact h
theorem stepIn_call {i : Nat} {o : Oper} {K : Act → World → Prop} {a : Act} {w : World} {v : Value} {f : FuncId} {args : Array Value} {G : World → Prop} (hi : ops[i]? = some o) (hg : o.guard = none) (hd : ∀ c, o.op ≠ .defer c) (hr : (execOp a.eval o).run P w = .ok (.enter f args) w)
    (hc : Calls P f args w fun e w' => e = .returned v ∧ G w') (h : ∀ w', G w' → K (a.put o.dst v) w') : wpOpIn (Fence.wide.inRound l) n P ops Q i K a w := by
  unfold wpOpIn
  simp only [hi, Region.wanted, hg, if_true]
  refine ⟨fun _ _ => trivial, ?_⟩
  rw [Oper.semAt_eq _ _ _ hd, hr]
  refine ⟨fun hd' => (by cases hd'), CallsIn.mono (CallsIn.inRound l (callsIn_wide.2 hc)) fun e w' ⟨he, hF⟩ => ?_⟩
  subst he
  exact h w' hF
end

/-- The frame on the way: its size, what it held ahead of the region, and what the operations that have come up have laid: all of one frame T. -/
structure Fm (ops : Array Oper) (T : Array Value) (base : List Nat) (listed : Array Bool) (a : Act) : Prop where
  size : a.tmps.size = T.size
  defers : a.defers = []
  base : ∀ d ∈ base, a.tmps.getD d undef = T.getD d undef
  up : ∀ (i : Nat) (o : Oper) (d : Nat), ops[i]? = some o → listed.getD i false = true → o.dst = some d → a.tmps.getD d undef = T.getD d undef
  lsize : listed.size = ops.size
section
variable {ops : Array Oper} {T : Array Value} {base : List Nat} {listed : Array Bool} {a : Act}
theorem Fm.put (h : Fm ops T base listed a) (hown : ownSlots ops base T.size = true) {i : Nat} {o : Oper} {d : Nat} (hi : ops[i]? = some o) (hd : o.dst = some d) {v : Value} (hv : v = T.getD d undef) : Fm ops T base (listed.setIfInBounds i true) (a.put o.dst v) := by
  have := Fr.Inv.put (ops := ops) (Spec := fun d v _ => v = T.getD d undef) (base := base) (n := T.size) (W := fun _ => True) (listed := listed) (a := a) (w := default) (w' := default)
    ⟨h.size, h.defers, trivial, h.base, h.up, h.lsize⟩ hown hi hd (v := v) trivial (fun _ _ x => x) hv
  exact ⟨this.size, this.defers, this.base, this.up, this.lsize⟩
theorem Fm.none (h : Fm ops T base listed a) {i : Nat} {o : Oper} (hi : ops[i]? = some o) (hd : o.dst = none) (v : Value) : Fm ops T base (listed.setIfInBounds i true) (a.put o.dst v) := by
  have e : a.put o.dst v = a := by rw [hd]; rfl
  rw [e]
  refine ⟨h.size, h.defers, h.base, fun j p q hj hl hq => ?_, by simp [h.lsize]⟩
  by_cases hji : j = i
  · subst hji; rw [hi] at hj; cases hj; rw [hd] at hq; cases hq
  · refine h.up j p q hj ?_ hq
    rw [Array.getD_eq_getD_getElem?, Array.getElem?_setIfInBounds, if_neg (Ne.symm hji), ← Array.getD_eq_getD_getElem?] at hl
    exact hl
theorem Fm.seen (h : Fm ops T base listed a) {l : List (Option Tmp × Op × Bool)} (hl : ops.toList.map shapeOf = l) {i : Nat} (hr : i ∈ Region.ready .any ops listed) (k : Nat) {d : Nat} {op : Op} {b : Bool} (hk : l[k]? = some (some d, op, b)) (hw : waitsOf ops i k = true) : a.tmps.getD d undef = T.getD d undef :=
  Fr.Inv.seen (ops := ops) (Spec := fun d v _ => v = T.getD d undef) (base := base) (n := T.size) (W := fun _ => True) (listed := listed) (a := a) (w := default)
    ⟨h.size, h.defers, trivial, h.base, h.up, h.lsize⟩ hl hr k hk hw
end

/-! makeRoom's 'c.order = slices.Delete(c.order, at, at+1)'. -/
def delShape : List (Option Tmp × Op × Bool) := [
  (some 42, .load 24 (.tmp 1), true), (some 43, .load 24 (.tmp 1), true), (some 44, .nilCheck (.tmp 43), true), (some 45, .fieldAddr 66 (.tmp 44) 3, true), (some 46, .load 43 (.tmp 45), true),
  (some 47, .move (.tmp 3), true), (some 48, .move (.tmp 3), true), (some 49, .binOp .add 3 (.tmp 48) (.const (.int .i64 1)) 3, true),
  (some 50, .call { callee := .value (.func 67), args := #[.tmp 46, .tmp 47, .tmp 49], argTypes := #[43, 3, 3] }, true),
  (some 51, .nilCheck (.tmp 42), true), (some 52, .fieldAddr 66 (.tmp 51) 3, true), (none, .store 43 (.tmp 52) (.tmp 50), true)]
/-- Behind the call, and behind the store. -/
structure DelM (w3 w : World) (p g hb cap : Nat) (O : List Int) (x : Nat) : Prop where
  row : w.ownsRow 0 3 1 (.slice (some ⟨g, 0, none⟩) (O.length - 1) cap) (O.length - 1) ((O.eraseIdx x).map (Value.int .i64))
  only : Only (fun k => k = g) w3 w
  box : w.cell? ⟨hb, 0, none⟩ = some (.pointer (some ⟨p, 0, none⟩))
  fld : ∃ u, w.cell? ⟨p, 3, none⟩ = some u
  fr : w.frozen? ⟨p, 3, none⟩ = false
def DelW (w3 : World) (p g hb cap : Nat) (O : List Int) (x : Nat) (listed : Array Bool) (w : World) : Prop :=
  (listed.getD 8 false = false ∧ listed.getD 11 false = false ∧ w = w3.drew) ∨ (listed.getD 8 false = true ∧ listed.getD 11 false = false ∧ listed.getD 4 false = true ∧ DelM w3 w p g hb cap O x) ∨
  (listed.getD 8 false = true ∧ listed.getD 11 false = true ∧ listed.getD 4 false = true ∧ ∃ w4, DelM w3 w4 p g hb cap O x ∧ w = w4.setCell ⟨p, 3, none⟩ (.slice (some ⟨g, 0, none⟩) (O.length - 1) cap))
theorem getD_other {listed : Array Bool} {i j : Nat} (h : j ≠ i) : (listed.setIfInBounds i true).getD j false = listed.getD j false := by
  rw [Array.getD_eq_getD_getElem?, Array.getElem?_setIfInBounds, if_neg (Ne.symm h), ← Array.getD_eq_getD_getElem?]
theorem not_listed {listed : Array Bool} {i : Nat} (h : listed.getD i true = false) : listed.getD i false = false := by
  rw [Array.getD_eq_getD_getElem?] at h ⊢
  cases e : listed[i]? with
  | none => rfl
  | some b => rw [e] at h; simpa using h
theorem listed_set {listed : Array Bool} {i : Nat} (h : i < listed.size) : (listed.setIfInBounds i true).getD i false = true := by
  rw [Array.getD_eq_getD_getElem?, Array.getElem?_setIfInBounds]; simp [h]
theorem rep_getD (n i : Nat) : (Array.replicate n false).getD i false = false := by
  rw [Array.getD_eq_getD_getElem?]
  by_cases h : i < n <;> simp [h]
theorem wait_listed {ops : Array Oper} {listed : Array Bool} {i k : Nat} (hr : i ∈ Region.ready .any ops listed) (hw : waitsOf ops i k = true) : listed.getD k false = true := by
  obtain ⟨_, o, ho, hall⟩ := mem_ready.1 hr
  unfold waitsOf at hw
  rw [ho] at hw
  obtain ⟨e, he0, hb⟩ := List.any_eq_true.1 hw
  have he : e ∈ o.after := Array.mem_toList_iff.1 he0
  simp only [Bool.and_eq_true, beq_iff_eq] at hb
  have := hall e he hb.1
  rwa [hb.2] at this
theorem DelW.keep {w3 w : World} {p g hb cap x : Nat} {O : List Int} {listed : Array Bool} (h : DelW w3 p g hb cap O x listed w) {i : Nat} (h4 : i ≠ 8) (h5 : i ≠ 11) : DelW w3 p g hb cap O x (listed.setIfInBounds i true) w := by
  have h44 : listed.getD 4 false = true → (listed.setIfInBounds i true).getD 4 false = true := by
    intro h
    by_cases e : i = 4
    · subst e
      rw [Array.getD_eq_getD_getElem?, Array.getElem?_setIfInBounds]
      rw [Array.getD_eq_getD_getElem?] at h
      by_cases hl : 4 < listed.size
      · simp [hl]
      · simp [hl] at h
    · rw [getD_other (Ne.symm e)]; exact h
  unfold DelW at h ⊢
  rw [getD_other (Ne.symm h4), getD_other (Ne.symm h5)]
  rcases h with h | ⟨h1, h2, h3, h⟩ | ⟨h1, h2, h3, h⟩
  · exact .inl h
  · exact .inr (.inl ⟨h1, h2, h44 h3, h⟩)
  · exact .inr (.inr ⟨h1, h2, h44 h3, h⟩)
section
variable {l n : Nat} {ops : Array Oper} {Q : Exit → Act → World → Prop} {w3 : World} {p g hb cap x : Nat} {O : List Int} {T : Array Value} {base : List Nat}
set_option maxHeartbeats 1000000 in
theorem del_region {id : Nat} {a : Act} (hm : Try.prog.follows .mixedOrders = true) (hsh : ops.toList.map shapeOf = delShape) (hown : ownSlots ops base T.size = true) (hback : backwards ops = true)
    (hw1 : waitsOf ops 2 1 = true) (hw2 : waitsOf ops 3 2 = true) (hw3 : waitsOf ops 4 3 = true) (hw4 : waitsOf ops 7 6 = true) (hw5 : waitsOf ops 8 4 = true) (hw6 : waitsOf ops 8 5 = true) (hw7 : waitsOf ops 8 7 = true) (hw8 : waitsOf ops 9 0 = true) (hw9 : waitsOf ops 10 9 = true) (hw10 : waitsOf ops 11 10 = true) (hw11 : waitsOf ops 11 8 = true)
    (hb1 : 1 ∈ base) (hb3 : 3 ∈ base)
    (T1 : T.getD 1 undef = .pointer (some ⟨hb, 0, none⟩)) (T3 : T.getD 3 undef = .int .i64 (x : Int)) (T42 : T.getD 42 undef = .pointer (some ⟨p, 0, none⟩)) (T43 : T.getD 43 undef = .pointer (some ⟨p, 0, none⟩)) (T44 : T.getD 44 undef = .pointer (some ⟨p, 0, none⟩)) (T45 : T.getD 45 undef = .pointer (some ⟨p, 3, none⟩)) (T46 : T.getD 46 undef = .slice (some ⟨g, 0, none⟩) O.length cap)
    (T47 : T.getD 47 undef = .int .i64 (x : Int)) (T48 : T.getD 48 undef = .int .i64 (x : Int)) (T49 : T.getD 49 undef = .int .i64 ((x : Int) + 1)) (T50 : T.getD 50 undef = .slice (some ⟨g, 0, none⟩) (O.length - 1) cap) (T51 : T.getD 51 undef = .pointer (some ⟨p, 0, none⟩)) (T52 : T.getD 52 undef = .pointer (some ⟨p, 3, none⟩))
    (ha : a.tmps.size = T.size) (hdf : a.defers = []) (hba : ∀ d ∈ base, a.tmps.getD d undef = T.getD d undef) (hTs : T.size = 53) (hbs : ∀ d, d < 42 → d ∈ base)
    (hx : x < O.length) (hol : O.length ≤ 5000)
    (row : w3.ownsRow 0 3 1 (.slice (some ⟨g, 0, none⟩) O.length cap) O.length (O.map (Value.int .i64))) (hgb : hb ≠ g) (hgp : p ≠ g) (hbl : hb < w3.heap.size) (hpl : p < w3.heap.size)
    (c0 : w3.cell? ⟨hb, 0, none⟩ = some (.pointer (some ⟨p, 0, none⟩))) (c3 : w3.cell? ⟨p, 3, none⟩ = some (.slice (some ⟨g, 0, none⟩) O.length cap)) (f3 : w3.frozen? ⟨p, 3, none⟩ = false) :
    (Code.region id ops true).wpIn (Fence.wide.inRound l) n Try.prog (fun e a' w' => e = .normal ∧ a' = { tmps := T, defers := [] } ∧ ∃ w4, DelM w3 w4 p g hb cap O x ∧ w' = w4.setCell ⟨p, 3, none⟩ (.slice (some ⟨g, 0, none⟩) (O.length - 1) cap)) a w3 := by
  have hall : ∀ d, d < T.size → d ∈ base ∨ ∃ (i : Nat) (o : Oper), ops[i]? = some o ∧ o.dst = some d := by
    intro d hd
    by_cases h42 : d < 42
    · exact .inl (hbs d h42)
    · right
      have hdec : ∀ i, i < 11 → (delShape[i]?).map (·.1) = some (some (42 + i)) := by decide
      have h1 := hdec (d - 42) (by omega)
      rw [← hsh, List.getElem?_map, Array.getElem?_toList] at h1
      cases ho : ops[d - 42]? with
      | none => rw [ho] at h1; cases h1
      | some o =>
        rw [ho] at h1
        simp only [Option.map_some, Option.some.injEq, shapeOf] at h1
        exact ⟨d - 42, o, ho, by rw [h1, Nat.add_sub_cancel' (by omega)]⟩
  have hsz : ops.size = 12 := by have := congrArg List.length hsh; simpa [delShape] using this
  refine wpIn_region_inv hm (fun listed a w => Fm ops T base listed a ∧ DelW w3 p g hb cap O x listed w) ⟨⟨ha, hdf, hba, fun i o d hi hl => ?_, by simp⟩, .inl ⟨rep_getD _ _, rep_getD _ _, rfl⟩⟩ ?_ ?_
  · have hlt := (Array.getElem?_eq_some_iff.1 hi).1
    simp [hlt] at hl
  · rintro listed a w ⟨h, hW⟩ i hr
    obtain ⟨hun, o, ho, hready⟩ := mem_ready.1 hr
    have hlt : i < 12 := by have := (Array.getElem?_eq_some_iff.1 ho).1; omega
    have cb : w.cell? ⟨hb, 0, none⟩ = some (.pointer (some ⟨p, 0, none⟩)) := by
      rcases hW with ⟨_, _, rfl⟩ | ⟨_, _, _, hM⟩ | ⟨_, _, _, w4, hM, rfl⟩
      · exact c0
      · exact hM.box
      · rw [World.cell?_setCell_other _ _ _ _ (by simp)]; exact hM.box
    have nodef : ∀ {op : Op}, o.op = op → (∀ c, op ≠ .defer c) → ∀ c, o.op ≠ .defer c := fun e h c => by rw [e]; exact h c
    have val : ∀ {d : Nat} {op : Op} {v : Value}, delShape[i]? = some (some d, op, true) → (∀ c, op ≠ .defer c) → (o.op = op → (execOp a.eval o).run Try.prog w = .ok (.value v) w) → v = T.getD d undef → i ≠ 8 → i ≠ 11 →
        wpOpIn (Fence.wide.inRound l) n Try.prog ops (fun e a' w' => e = .normal ∧ a' = { tmps := T, defers := [] } ∧ ∃ w4, DelM w3 w4 p g hb cap O x ∧ w' = w4.setCell ⟨p, 3, none⟩ (.slice (some ⟨g, 0, none⟩) (O.length - 1) cap)) i (fun a' w' => Fm ops T base (listed.setIfInBounds i true) a' ∧ DelW w3 p g hb cap O x (listed.setIfInBounds i true) w') a w := by
      intro d op v hl hnd hr hv h4 h5
      obtain ⟨e1, e2, e3⟩ := shape_is hsh ho hl
      exact stepIn_val ho e3 (nodef e2 hnd) (hr e2) ⟨h.put hown ho e1 hv, hW.keep h4 h5⟩
    match i, hlt with
    | 0, _ =>
      refine val (d := 42) (v := .pointer (some ⟨p, 0, none⟩)) rfl (fun c => by simp) (fun hop => ?_) T42.symm (by omega) (by omega)
      have hv : a.tmps.getD 1 undef = .pointer (some ⟨hb, 0, none⟩) := (h.base 1 hb1).trans T1
      unfold execOp; simp only [hop, Act.eval]; rw [hv]
      go_simp
    | 1, _ =>
      refine val (d := 43) (v := .pointer (some ⟨p, 0, none⟩)) rfl (fun c => by simp) (fun hop => ?_) T43.symm (by omega) (by omega)
      have hv : a.tmps.getD 1 undef = .pointer (some ⟨hb, 0, none⟩) := (h.base 1 hb1).trans T1
      unfold execOp; simp only [hop, Act.eval]; rw [hv]
      go_simp
    | 2, _ =>
      refine val (d := 44) (v := .pointer (some ⟨p, 0, none⟩)) rfl (fun c => by simp) (fun hop => ?_) T44.symm (by omega) (by omega)
      have hv : a.tmps.getD 43 undef = .pointer (some ⟨p, 0, none⟩) := (h.seen hsh hr 1 rfl hw1).trans T43
      unfold execOp; simp only [hop, Act.eval]; rw [hv]
      go_simp
    | 3, _ =>
      refine val (d := 45) (v := .pointer (some ⟨p, 3, none⟩)) rfl (fun c => by simp) (fun hop => ?_) T45.symm (by omega) (by omega)
      have hv : a.tmps.getD 44 undef = .pointer (some ⟨p, 0, none⟩) := (h.seen hsh hr 2 rfl hw2).trans T44
      unfold execOp; simp only [hop, Act.eval]; rw [hv]
      go_simp
    | 4, _ =>
      refine val (d := 46) (v := .slice (some ⟨g, 0, none⟩) O.length cap) rfl (fun c => by simp) (fun hop => ?_) T46.symm (by omega) (by omega)
      have hv : a.tmps.getD 45 undef = .pointer (some ⟨p, 3, none⟩) := (h.seen hsh hr 3 rfl hw3).trans T45
      have cw : w.cell? ⟨p, 3, none⟩ = some (.slice (some ⟨g, 0, none⟩) O.length cap) := by
        rcases hW with ⟨_, _, rfl⟩ | ⟨_, _, h4, _⟩ | ⟨_, _, h4, _⟩
        · exact c3
        · rw [not_listed hun] at h4; cases h4
        · rw [not_listed hun] at h4; cases h4
      unfold execOp; simp only [hop, Act.eval]; rw [hv]
      go_simp
    | 5, _ =>
      refine val (d := 47) (v := .int .i64 (x : Int)) rfl (fun c => by simp) (fun hop => ?_) T47.symm (by omega) (by omega)
      have hv : a.tmps.getD 3 undef = .int .i64 (x : Int) := (h.base 3 hb3).trans T3
      unfold execOp; simp only [hop, Act.eval]; rw [hv]
      go_simp
    | 6, _ =>
      refine val (d := 48) (v := .int .i64 (x : Int)) rfl (fun c => by simp) (fun hop => ?_) T48.symm (by omega) (by omega)
      have hv : a.tmps.getD 3 undef = .int .i64 (x : Int) := (h.base 3 hb3).trans T3
      unfold execOp; simp only [hop, Act.eval]; rw [hv]
      go_simp
    | 7, _ =>
      refine val (d := 49) (v := .int .i64 ((x : Int) + 1)) rfl (fun c => by simp) (fun hop => ?_) T49.symm (by omega) (by omega)
      have hv : a.tmps.getD 48 undef = .int .i64 (x : Int) := (h.seen hsh hr 6 rfl hw4).trans T48
      have hwr : IntKind.i64.wrap ((x : Int) + 1) = (x : Int) + 1 := IntWalk.i64_in _ (by omega)
      unfold execOp; simp only [hop, Act.eval]; rw [hv]
      go_simp
    | 8, _ =>
      obtain ⟨e1, e2, e3⟩ := shape_is hsh ho (d := 50) (op := .call { callee := .value (.func 67), args := #[.tmp 46, .tmp 47, .tmp 49], argTypes := #[43, 3, 3] }) rfl
      have hv1 : a.tmps.getD 46 undef = .slice (some ⟨g, 0, none⟩) O.length cap := (h.seen hsh hr 4 rfl hw5).trans T46
      have hv2 : a.tmps.getD 47 undef = .int .i64 (x : Int) := (h.seen hsh hr 5 rfl hw6).trans T47
      have hv3 : a.tmps.getD 49 undef = .int .i64 ((x : Int) + 1) := (h.seen hsh hr 7 rfl hw7).trans T49
      obtain ⟨h8, h11, rfl⟩ : listed.getD 8 false = false ∧ listed.getD 11 false = false ∧ w = w3.drew := by
        rcases hW with h' | ⟨h', _⟩ | ⟨h', _⟩
        · exact h'
        · rw [not_listed hun] at h'; cases h'
        · rw [not_listed hun] at h'; cases h'
      have hc := delete_any (w := w3.drew) (O := O) (g := g) (cap := cap) (k := x) row hx
      refine stepIn_call ho e3 (nodef e2 (fun c => by simp)) (f := 67) (args := #[.slice (some ⟨g, 0, none⟩) O.length cap, .int .i64 (x : Int), .int .i64 ((x : Int) + 1)]) (G := fun w' => DelM w3 w' p g hb cap O x) (v := .slice (some ⟨g, 0, none⟩) (O.length - 1) cap) ?_ (hc.mono fun e w' ⟨he, hrow, hon⟩ => ⟨he, hrow, ?_, ?_, ?_, ?_⟩) (fun w' hM => ⟨h.put hown ho e1 T50.symm, .inr (.inl ⟨?_, ?_, ?_, hM⟩)⟩)
      · unfold execOp
        simp only [e2, resolve, Act.eval, List.map_toArray, List.map_cons, List.map_nil, hv1, hv2, hv3]
        kernel_rfl
      · exact ⟨hon.os, hon.tape, hon.output, hon.size, hon.block⟩
      · exact (hon.cell (p := ⟨hb, 0, none⟩) hbl hgb).trans c0
      · exact ⟨_, (hon.cell (p := ⟨p, 3, none⟩) hpl hgp).trans c3⟩
      · exact (World.frozen?_of_block (hon.block p hpl hgp)).trans f3
      · exact listed_set (by rw [h.lsize]; omega)
      · rw [getD_other (by omega)]; exact h11
      · rw [getD_other (by omega)]; exact wait_listed hr hw5
    | 9, _ =>
      refine val (d := 51) (v := .pointer (some ⟨p, 0, none⟩)) rfl (fun c => by simp) (fun hop => ?_) T51.symm (by omega) (by omega)
      have hv : a.tmps.getD 42 undef = .pointer (some ⟨p, 0, none⟩) := (h.seen hsh hr 0 rfl hw8).trans T42
      unfold execOp; simp only [hop, Act.eval]; rw [hv]
      go_simp
    | 10, _ =>
      refine val (d := 52) (v := .pointer (some ⟨p, 3, none⟩)) rfl (fun c => by simp) (fun hop => ?_) T52.symm (by omega) (by omega)
      have hv : a.tmps.getD 51 undef = .pointer (some ⟨p, 0, none⟩) := (h.seen hsh hr 9 rfl hw9).trans T51
      unfold execOp; simp only [hop, Act.eval]; rw [hv]
      go_simp
    | 11, _ =>
      obtain ⟨e1, e2, e3⟩ : o.dst = none ∧ o.op = .store 43 (.tmp 52) (.tmp 50) ∧ o.guard = none := by
        have := shape_at hsh ho
        simp only [delShape, List.getElem?_cons_succ, List.getElem?_cons_zero, Option.some.injEq, Prod.mk.injEq] at this
        exact ⟨this.1.symm, this.2.1.symm, Option.isNone_iff_eq_none.1 this.2.2.symm⟩
      have hv1 : a.tmps.getD 52 undef = .pointer (some ⟨p, 3, none⟩) := (h.seen hsh hr 10 rfl hw10).trans T52
      have hv2 : a.tmps.getD 50 undef = .slice (some ⟨g, 0, none⟩) (O.length - 1) cap := (h.seen hsh hr 8 rfl hw11).trans T50
      have h8 := wait_listed hr hw11
      obtain ⟨h4, hM⟩ : listed.getD 4 false = true ∧ DelM w3 w p g hb cap O x := by
        rcases hW with ⟨h', _⟩ | ⟨_, _, h4, hM⟩ | ⟨_, h', _⟩
        · rw [h8] at h'; cases h'
        · exact ⟨h4, hM⟩
        · rw [not_listed hun] at h'; cases h'
      obtain ⟨u, cu⟩ := hM.fld
      have fu := hM.fr
      refine stepIn_skip ho e3 (nodef e2 (fun c => by simp)) (w' := w.setCell ⟨p, 3, none⟩ (.slice (some ⟨g, 0, none⟩) (O.length - 1) cap)) ?_ ⟨h.none ho e1 _, .inr (.inr ⟨?_, listed_set (by rw [h.lsize]; omega), ?_, w, hM, rfl⟩)⟩
      · unfold execOp; simp only [e2, Act.eval, hv1, hv2]
        go_simp
      · rw [getD_other (by omega)]; exact h8
      · rw [getD_other (by omega)]; exact h4
  · rintro listed a w ⟨h, hW⟩ hr
    have hup := all_up hback h.lsize hr
    have hT : a.tmps = T := by
      apply Array.ext h.size
      intro d h1 h2
      have : a.tmps.getD d undef = T.getD d undef := by
        rcases hall d h2 with hd | ⟨i, o, hi, hd⟩
        · exact h.base d hd
        · exact h.up i o d hi (hup i (Array.getElem?_eq_some_iff.1 hi).1) hd
      simpa [h1, h2] using this
    refine ⟨rfl, ?_, ?_⟩
    · have := h.defers
      cases a; simp at this hT ⊢; exact ⟨hT, this⟩
    · rcases hW with ⟨h8, _⟩ | ⟨_, h11, _⟩ | ⟨_, _, _, h'⟩
      · rw [hup 8 (by omega)] at h8; cases h8
      · rw [hup 11 (by omega)] at h11; cases h11
      · exact h'
end
end Go.Proofs.Yteeoglfgilabaaa
