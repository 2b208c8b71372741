/- A region that draws its order inside a round of a range over a function, by an invariant: of no program. -/
import Derived.Test.YtbblmpibekkbfaaDoorWInv
import Derived.OrdersIn
import Derived.RegionIn
import Derived.RangeFuncWrites
import Derived.RangeFuncCalls
import Derived.RangeFuncLeaves
import Derived.TacticsInMore
import Derived.IntWalk
namespace Go.Proofs.YtbblmpibekkbfaaDoor
open Go.RowKit
open Fr (ownSlots waitsOf backwards all_up shapeOf shape_at shape_is left_set left_new)

section
variable {F : Fence} {n : Nat} {P : Program} {ops : Array Oper} {Q : Exit → Act → World → Prop}
theorem wpAnyIn_inv (I : Array Bool → Act → World → Prop)
    (hstep : ∀ listed a w, I listed a w → ∀ i ∈ Region.ready .any ops listed, wpOpIn F n P ops Q i (fun a' w' => I (listed.setIfInBounds i true) a' w') a w)
    (hend : ∀ listed a w, I listed a w → Region.ready .any ops listed = [] → Q .normal a w) :
    ∀ (fuel : Nat) (listed : Array Bool) (a : Act) (w : World), Fr.left listed ≤ fuel → I listed a w → wpAnyIn F n P .any ops Q fuel listed a w := by
  intro fuel
  induction fuel with
  | zero =>
    intro listed a w hl hI
    have hr : Region.ready .any ops listed = [] := by
      apply List.eq_nil_iff_forall_not_mem.2
      intro i hi
      have := left_set (mem_ready.1 hi).1
      omega
    exact ⟨hr, hend _ _ _ hI hr⟩
  | succ fuel ih =>
    intro listed a w hl hI
    refine ⟨hend _ _ _ hI, fun i hi => ?_⟩
    have hlt := left_set (mem_ready.1 hi).1
    exact wpOpIn_mono (fun a' w' h => ih _ a' w' (by omega) h) (hstep _ _ _ hI i hi)
theorem wpIn_region_inv {id : Nat} {a : Act} {w : World} (hm : P.follows .mixedOrders = true) (I : Array Bool → Act → World → Prop) (h0 : I (Array.replicate ops.size false) a { w with drawn := w.drawn + 1 })
    (hstep : ∀ listed a w, I listed a w → ∀ i ∈ Region.ready .any ops listed, wpOpIn F n P ops Q i (fun a' w' => I (listed.setIfInBounds i true) a' w') a w)
    (hend : ∀ listed a w, I listed a w → Region.ready .any ops listed = [] → Q .normal a w) : (Code.region id ops true).wpIn F n P Q a w :=
  wpIn_region_any hm (wpAnyIn_inv I hstep hend _ _ _ _ (by rw [left_new]; exact Nat.le_refl _) h0)
end

section
variable {l n : Nat} {P : Program} {ops : Array Oper} {Q : Exit → Act → World → Prop}
theorem stepIn_val {i : Nat} {o : Oper} {K : Act → World → Prop} {a : Act} {w w' : World} {v : Value} (hi : ops[i]? = some o) (hg : o.guard = none) (hd : ∀ c, o.op ≠ .defer c) (hr : (execOp a.eval o).run P w = .ok (.value v) w') (h : K (a.put o.dst v) w') : wpOpIn (Fence.wide.inRound l) n P ops Q i K a w := by
  unfold wpOpIn
  simp only [hi, Region.wanted, hg, if_true]
  refine ⟨fun _ _ => trivial, ?_⟩
  rw [Oper.semAt_eq _ _ _ hd, hr]
  exact h
theorem stepIn_skip {i : Nat} {o : Oper} {K : Act → World → Prop} {a : Act} {w w' : World} (hi : ops[i]? = some o) (hg : o.guard = none) (hd : ∀ c, o.op ≠ .defer c) (hr : (execOp a.eval o).run P w = .ok .skip w') (h : K (a.put o.dst undef) w') : wpOpIn (Fence.wide.inRound l) n P ops Q i K a w := by
  unfold wpOpIn
  simp only [hi, Region.wanted, hg, if_true]
  refine ⟨fun _ _ => trivial, ?_⟩
  rw [Oper.semAt_eq _ _ _ hd, hr]
  exact h
theorem stepIn_call {i : Nat} {o : Oper} {K : Act → World → Prop} {a : Act} {w : World} {v : Value} {f : FuncId} {args : Array Value} {G : World → Prop} (hi : ops[i]? = some o) (hg : o.guard = none) (hd : ∀ c, o.op ≠ .defer c) (hr : (execOp a.eval o).run P w = .ok (.enter f args) w)
    (hc : Calls P f args w fun e w' => e = .returned v ∧ G w') (h : ∀ w', G w' → K (a.put o.dst v) w') : wpOpIn (Fence.wide.inRound l) n P ops Q i K a w := by
  unfold wpOpIn
  simp only [hi, Region.wanted, hg, if_true]
  refine ⟨fun _ _ => trivial, ?_⟩
  rw [Oper.semAt_eq _ _ _ hd, hr]
  refine ⟨fun hd' => (by cases hd'), CallsIn.mono (CallsIn.inRound l (callsIn_wide.2 hc)) fun e w' ⟨he, hF⟩ => ?_⟩
  subst he
  exact h w' hF
end

/-- The frame on the way: its size, what it held ahead of the region, and what the operations that have come up have laid: all of one frame T. -/
structure Fm (ops : Array Oper) (T : Array Value) (base : List Nat) (listed : Array Bool) (a : Act) : Prop where
  size : a.tmps.size = T.size
  defers : a.defers = []
  base : ∀ d ∈ base, a.tmps.getD d undef = T.getD d undef
  up : ∀ (i : Nat) (o : Oper) (d : Nat), ops[i]? = some o → listed.getD i false = true → o.dst = some d → a.tmps.getD d undef = T.getD d undef
  lsize : listed.size = ops.size
section
variable {ops : Array Oper} {T : Array Value} {base : List Nat} {listed : Array Bool} {a : Act}
theorem Fm.put (h : Fm ops T base listed a) (hown : ownSlots ops base T.size = true) {i : Nat} {o : Oper} {d : Nat} (hi : ops[i]? = some o) (hd : o.dst = some d) {v : Value} (hv : v = T.getD d undef) : Fm ops T base (listed.setIfInBounds i true) (a.put o.dst v) := by
  have := Fr.Inv.put (ops := ops) (Spec := fun d v _ => v = T.getD d undef) (base := base) (n := T.size) (W := fun _ => True) (listed := listed) (a := a) (w := default) (w' := default)
    ⟨h.size, h.defers, trivial, h.base, h.up, h.lsize⟩ hown hi hd (v := v) trivial (fun _ _ x => x) hv
  exact ⟨this.size, this.defers, this.base, this.up, this.lsize⟩
theorem Fm.none (h : Fm ops T base listed a) {i : Nat} {o : Oper} (hi : ops[i]? = some o) (hd : o.dst = none) (v : Value) : Fm ops T base (listed.setIfInBounds i true) (a.put o.dst v) := by
  have e : a.put o.dst v = a := by rw [hd]; rfl
  rw [e]
  refine ⟨h.size, h.defers, h.base, fun j p q hj hl hq => ?_, by simp [h.lsize]⟩
  by_cases hji : j = i
  · subst hji; rw [hi] at hj; cases hj; rw [hd] at hq; cases hq
  · refine h.up j p q hj ?_ hq
    rw [Array.getD_eq_getD_getElem?, Array.getElem?_setIfInBounds, if_neg (Ne.symm hji), ← Array.getD_eq_getD_getElem?] at hl
    exact hl
theorem Fm.seen (h : Fm ops T base listed a) {l : List (Option Tmp × Op × Bool)} (hl : ops.toList.map shapeOf = l) {i : Nat} (hr : i ∈ Region.ready .any ops listed) (k : Nat) {d : Nat} {op : Op} {b : Bool} (hk : l[k]? = some (some d, op, b)) (hw : waitsOf ops i k = true) : a.tmps.getD d undef = T.getD d undef :=
  Fr.Inv.seen (ops := ops) (Spec := fun d v _ => v = T.getD d undef) (base := base) (n := T.size) (W := fun _ => True) (listed := listed) (a := a) (w := default)
    ⟨h.size, h.defers, trivial, h.base, h.up, h.lsize⟩ hl hr k hk hw
end

theorem getD_other {listed : Array Bool} {i j : Nat} (h : j ≠ i) : (listed.setIfInBounds i true).getD j false = listed.getD j false := by
  rw [Array.getD_eq_getD_getElem?, Array.getElem?_setIfInBounds, if_neg (Ne.symm h), ← Array.getD_eq_getD_getElem?]
theorem not_listed {listed : Array Bool} {i : Nat} (h : listed.getD i true = false) : listed.getD i false = false := by
  rw [Array.getD_eq_getD_getElem?] at h ⊢
  cases e : listed[i]? with
  | none => rfl
  | some b => rw [e] at h; simpa using h
theorem listed_set {listed : Array Bool} {i : Nat} (h : i < listed.size) : (listed.setIfInBounds i true).getD i false = true := by
  rw [Array.getD_eq_getD_getElem?, Array.getElem?_setIfInBounds]; simp [h]
theorem rep_getD (n i : Nat) : (Array.replicate n false).getD i false = false := by
  rw [Array.getD_eq_getD_getElem?]
  by_cases h : i < n <;> simp [h]
theorem wait_listed {ops : Array Oper} {listed : Array Bool} {i k : Nat} (hr : i ∈ Region.ready .any ops listed) (hw : waitsOf ops i k = true) : listed.getD k false = true := by
  obtain ⟨_, o, ho, hall⟩ := mem_ready.1 hr
  unfold waitsOf at hw
  rw [ho] at hw
  obtain ⟨e, he0, hb⟩ := List.any_eq_true.1 hw
  have he : e ∈ o.after := Array.mem_toList_iff.1 he0
  simp only [Bool.and_eq_true, beq_iff_eq] at hb
  have := hall e he hb.1
  rwa [hb.2] at this
end Go.Proofs.YtbblmpibekkbfaaDoor
