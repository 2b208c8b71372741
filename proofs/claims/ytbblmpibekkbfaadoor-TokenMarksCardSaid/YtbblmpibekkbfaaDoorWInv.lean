/- A region that draws its order, by an invariant: what each slot holds once its operation has come up, in whatever order; nothing of one program is in it. -/
import Derived.Orders
import Derived.WalkKit
namespace Go.Proofs.YtbblmpibekkbfaaDoor.Fr
open Go.RowKit

section
variable {P : Program} {ops : Array Oper} {Q : Exit → Act → World → Prop}

/-- How many have not come up. -/
def left (listed : Array Bool) : Nat := listed.toList.countP (fun b => !b)
theorem left_set {listed : Array Bool} {i : Nat} (h : listed.getD i true = false) : left (listed.setIfInBounds i true) + 1 = left listed := by
  obtain ⟨l⟩ := listed
  unfold left
  rw [List.setIfInBounds_toArray]
  show (l.set i true).countP _ + 1 = l.countP _
  have h' : l[i]?.getD true = false := by simpa using h
  clear h
  induction l generalizing i with
  | nil => simp at h'
  | cons b l ih =>
    cases i with
    | zero => simp at h'; subst h'; simp
    | succ i =>
      have := ih (i := i) (by simpa using h')
      simp only [List.set_cons_succ, List.countP_cons]
      omega
theorem wpAny_inv (I : Array Bool → Act → World → Prop)
    (hstep : ∀ listed a w, I listed a w → ∀ i ∈ Region.ready .any ops listed, wpOp P ops Q i (fun a' w' => I (listed.setIfInBounds i true) a' w') a w)
    (hend : ∀ listed a w, I listed a w → Region.ready .any ops listed = [] → Q .normal a w) :
    ∀ (fuel : Nat) (listed : Array Bool) (a : Act) (w : World), left listed ≤ fuel → I listed a w → wpAny P .any ops Q fuel listed a w := by
  intro fuel
  induction fuel with
  | zero =>
    intro listed a w hl hI
    have hr : Region.ready .any ops listed = [] := by
      apply List.eq_nil_iff_forall_not_mem.2
      intro i hi
      have := left_set (mem_ready.1 hi).1
      omega
    exact ⟨hr, hend _ _ _ hI hr⟩
  | succ fuel ih =>
    intro listed a w hl hI
    refine ⟨hend _ _ _ hI, fun i hi => ?_⟩
    have hlt := left_set (mem_ready.1 hi).1
    exact wpOp_mono (fun a' w' h => ih _ a' w' (by omega) h) (hstep _ _ _ hI i hi)
theorem left_new (n : Nat) : left (Array.replicate n false) = n := by
  unfold left
  rw [Array.toList_replicate, List.countP_replicate]
  simp

/-- What each slot of ds holds. -/
def Holds (Spec : Nat → Value → World → Prop) (ds : List Nat) (a : Act) (w : World) : Prop := ∀ d ∈ ds, Spec d (a.tmps.getD d undef) w
/-- The slots of the operations that have come up. -/
def Up (ops : Array Oper) (Spec : Nat → Value → World → Prop) (listed : Array Bool) (a : Act) (w : World) : Prop :=
  ∀ (i : Nat) (o : Oper) (d : Nat), ops[i]? = some o → listed.getD i false = true → o.dst = some d → Spec d (a.tmps.getD d undef) w

/-- The invariant: the frame's size and defers, the world, the slots that held something ahead of the region, the slots of what has come up. -/
structure Inv (ops : Array Oper) (Spec : Nat → Value → World → Prop) (base : List Nat) (n : Nat) (W : World → Prop) (listed : Array Bool) (a : Act) (w : World) : Prop where
  size : a.tmps.size = n
  defers : a.defers = []
  world : W w
  base : Holds Spec base a w
  up : Up ops Spec listed a w
  lsize : listed.size = ops.size

/-- Each operation's slot is its own: none ahead of the region, none of another operation; and below n. -/
def ownSlots (ops : Array Oper) (base : List Nat) (n : Nat) : Bool :=
  (List.range ops.size).all fun i => match ops[i]? with
    | none => true
    | some o => match o.dst with
      | none => true
      | some d => decide (d < n) && !base.contains d && o.guard.isNone && (List.range ops.size).all fun j => decide (j = i) || match ops[j]? with | none => true | some p => p.dst != some d

theorem Inv.put {Spec : Nat → Value → World → Prop} {base : List Nat} {n : Nat} {W : World → Prop} {listed : Array Bool} {a : Act} {w w' : World} (h : Inv ops Spec base n W listed a w) (hown : ownSlots ops base n = true)
    {i : Nat} {o : Oper} {d : Nat} (hi : ops[i]? = some o) (hd : o.dst = some d) {v : Value} (hW : W w') (hmono : ∀ k u, Spec k u w → Spec k u w') (hv : Spec d v w') :
    Inv ops Spec base n W (listed.setIfInBounds i true) (a.put o.dst v) w' := by
  have hlt : i < ops.size := (Array.getElem?_eq_some_iff.1 hi).1
  have h1 := List.all_eq_true.1 hown i (List.mem_range.2 hlt)
  rw [hi] at h1
  simp only [hd, Bool.and_eq_true, decide_eq_true_eq, Bool.not_eq_true', List.contains_eq_mem, decide_eq_false_iff_not] at h1
  obtain ⟨⟨⟨hdn, hdb⟩, _⟩, hother⟩ := h1
  have hput : ∀ k, k ≠ d → (a.put o.dst v).tmps.getD k undef = a.tmps.getD k undef := fun k hk => by
    rw [hd]
    show (a.tmps.setIfInBounds d v).getD k undef = _
    simp [Ne.symm hk]
  have hsame : (a.put o.dst v).tmps.getD d undef = v := by
    rw [hd]
    show (a.tmps.setIfInBounds d v).getD d undef = _
    have : d < a.tmps.size := by rw [h.size]; exact hdn
    simp [this]
  refine ⟨?_, ?_, hW, ?_, ?_, by simp [h.lsize]⟩
  · rw [hd]; show (a.tmps.setIfInBounds d v).size = n; simp [h.size]
  · rw [hd]; exact h.defers
  · intro k hk
    rw [hput k (fun e => hdb (e ▸ hk))]
    exact hmono _ _ (h.base k hk)
  · intro j p q hj hl hq
    by_cases hji : j = i
    · subst hji
      rw [hi] at hj
      cases hj
      rw [hd] at hq
      cases hq
      rw [hsame]; exact hv
    · have hjl : j < ops.size := (Array.getElem?_eq_some_iff.1 hj).1
      have h2 := List.all_eq_true.1 hother j (List.mem_range.2 hjl)
      rw [hj] at h2
      simp only [hji, decide_false, Bool.false_or, bne_iff_ne, ne_eq] at h2
      have hqd : q ≠ d := fun e => h2 (by rw [hq, e])
      rw [hput q hqd]
      have hl' : listed.getD j false = true := by
        rw [Array.getD_eq_getD_getElem?, Array.getElem?_setIfInBounds, if_neg (Ne.symm hji), ← Array.getD_eq_getD_getElem?] at hl
        exact hl
      exact hmono _ _ (h.up j p q hj hl' hq)

/-- One operation's needs: the places of the operations that it waits for. -/
def waitsOf (ops : Array Oper) (i k : Nat) : Bool := match ops[i]? with | none => false | some o => o.after.toList.any fun e => Region.binds .any e && e.on == k
theorem Inv.at {Spec : Nat → Value → World → Prop} {base : List Nat} {n : Nat} {W : World → Prop} {listed : Array Bool} {a : Act} {w : World} (h : Inv ops Spec base n W listed a w)
    {i : Nat} (hr : i ∈ Region.ready .any ops listed) (k d : Nat) (p : Oper) (hw : waitsOf ops i k = true) (hk : ops[k]? = some p) (hd : p.dst = some d) : Spec d (a.tmps.getD d undef) w := by
  obtain ⟨_, o, ho, hall⟩ := mem_ready.1 hr
  unfold waitsOf at hw
  rw [ho] at hw
  obtain ⟨e, he0, hb⟩ := List.any_eq_true.1 hw
  have he : e ∈ o.after := Array.mem_toList_iff.1 he0
  simp only [Bool.and_eq_true, beq_iff_eq] at hb
  have := hall e he hb.1
  rw [hb.2] at this
  exact h.up k p d hk this hd

/-- All have come up where none may. -/
def backwards (ops : Array Oper) : Bool := (List.range ops.size).all fun i => match ops[i]? with | none => true | some o => o.after.all fun e => decide (e.on < i)
theorem all_up (hb : backwards ops = true) {listed : Array Bool} (hl : listed.size = ops.size) (hr : Region.ready .any ops listed = []) : ∀ i, i < ops.size → listed.getD i false = true := by
  intro i
  induction i using Nat.strongRecOn with
  | ind i ih =>
    intro hi
    apply Decidable.byContradiction
    intro hn
    have hf : listed.getD i true = false := by
      have hil : i < listed.size := by omega
      simp [hil] at hn ⊢
      exact hn
    have hm : i ∈ Region.ready .any ops listed := by
      refine mem_ready.2 ⟨hf, ops[i], by simp [hi], fun e he _ => ?_⟩
      have h1 := List.all_eq_true.1 hb i (List.mem_range.2 hi)
      simp only [Array.getElem?_eq_getElem hi] at h1
      have h2 := Array.all_eq_true_iff_forall_mem.1 h1 e he
      have h3 : e.on < i := by simpa using h2
      exact ih e.on h3 (by omega)
    rw [hr] at hm
    cases hm

theorem step_val {i : Nat} {o : Oper} {K : Act → World → Prop} {a : Act} {w w' : World} {v : Value} (hi : ops[i]? = some o) (hg : o.guard = none) (hr : (execOp a.eval o).run P w = .ok (.value v) w') (h : K (a.put o.dst v) w') : wpOp P ops Q i K a w := by
  unfold wpOp
  simp only [hi, Region.wanted, hg, if_true]
  left
  unfold Oper.wp
  rw [hr]
  exact h
theorem step_calls {i : Nat} {o : Oper} {K : Act → World → Prop} {a : Act} {w : World} {v : Value} {f : FuncId} {args : Array Value} {F : World → Prop} (hi : ops[i]? = some o) (hg : o.guard = none) (hr : (execOp a.eval o).run P w = .ok (.enter f args) w)
    (hc : Calls P f args w fun e w' => e = .returned v ∧ F w') (h : ∀ w', F w' → K (a.put o.dst v) w') : wpOp P ops Q i K a w := by
  unfold wpOp
  simp only [hi, Region.wanted, hg, if_true]
  left
  unfold Oper.wp
  rw [hr]
  refine Calls.mono hc fun e w' ⟨he, hF⟩ => ?_
  subst he
  exact h w' hF

theorem Inv.val {Spec : Nat → Value → World → Prop} {base : List Nat} {n : Nat} {W : World → Prop} {listed : Array Bool} {a : Act} {w w' : World} (h : Inv ops Spec base n W listed a w) (hown : ownSlots ops base n = true)
    {i : Nat} {o : Oper} {d : Nat} {v : Value} (hi : ops[i]? = some o) (hd : o.dst = some d) (hg : o.guard = none) (hr : (execOp a.eval o).run P w = .ok (.value v) w') (hW : W w') (hmono : ∀ k u, Spec k u w → Spec k u w') (hv : Spec d v w') :
    wpOp P ops Q i (fun a' w' => Inv ops Spec base n W (listed.setIfInBounds i true) a' w') a w := step_val hi hg hr (h.put hown hi hd hW hmono hv)
/-- An operation that turns nothing of the world. -/
theorem Inv.val' {Spec : Nat → Value → World → Prop} {base : List Nat} {n : Nat} {W : World → Prop} {listed : Array Bool} {a : Act} {w : World} (h : Inv ops Spec base n W listed a w) (hown : ownSlots ops base n = true)
    {i : Nat} {o : Oper} {d : Nat} {v : Value} (hi : ops[i]? = some o) (hd : o.dst = some d) (hg : o.guard = none) (hr : (execOp a.eval o).run P w = .ok (.value v) w) (hv : Spec d v w) :
    wpOp P ops Q i (fun a' w' => Inv ops Spec base n W (listed.setIfInBounds i true) a' w') a w := step_val hi hg hr (h.put hown hi hd h.world (fun _ _ x => x) hv)

/-- A function's region. -/
def regionIn (id : Nat) : Code → Option (Array Oper)
  | .region i ops _ => if i = id then some ops else none
  | .seq a b => (regionIn id a).or (regionIn id b)
  | .cond _ a b => (regionIn id a).or (regionIn id b)
  | .block _ a => regionIn id a
  | .loop a => regionIn id a
  | .scope a => regionIn id a
  | _ => none
def opsOf (f : Func) (id : Nat) : Array Oper := (f.body.bind (regionIn id)).getD #[]
/-- What of an operation its run hangs on. -/
def shapeOf (o : Oper) : Option Tmp × Op × Bool := (o.dst, o.op, o.guard.isNone)
theorem shape_at {l : List (Option Tmp × Op × Bool)} (h : ops.toList.map shapeOf = l) {i : Nat} {o : Oper} (hi : ops[i]? = some o) : l[i]? = some (o.dst, o.op, o.guard.isNone) := by
  have h2 : ops.toList[i]? = some o := by rw [Array.getElem?_toList]; exact hi
  rw [← h, List.getElem?_map, h2]; rfl
theorem shape_is {l : List (Option Tmp × Op × Bool)} (h : ops.toList.map shapeOf = l) {i : Nat} {o : Oper} (hi : ops[i]? = some o) {d : Nat} {op : Op} (hl : l[i]? = some (some d, op, true)) : o.dst = some d ∧ o.op = op ∧ o.guard = none := by
  have := shape_at h hi
  rw [hl] at this
  simp only [Option.some.injEq, Prod.mk.injEq] at this
  exact ⟨this.1.symm, this.2.1.symm, Option.isNone_iff_eq_none.1 this.2.2.symm⟩
theorem Inv.seen {Spec : Nat → Value → World → Prop} {base : List Nat} {n : Nat} {W : World → Prop} {listed : Array Bool} {a : Act} {w : World} (h : Inv ops Spec base n W listed a w) {l : List (Option Tmp × Op × Bool)} (hl : ops.toList.map shapeOf = l)
    {i : Nat} (hr : i ∈ Region.ready .any ops listed) (k : Nat) {d : Nat} {op : Op} {b : Bool} (hk : l[k]? = some (some d, op, b)) (hw : waitsOf ops i k = true) : Spec d (a.tmps.getD d undef) w := by
  have h1 : (ops.toList.map shapeOf)[k]? = some (some d, op, b) := by rw [hl]; exact hk
  rw [List.getElem?_map, Array.getElem?_toList] at h1
  cases ho : ops[k]? with
  | none => rw [ho] at h1; cases h1
  | some p =>
    rw [ho] at h1
    simp only [Option.map_some, Option.some.injEq, shapeOf, Prod.mk.injEq] at h1
    exact h.at hr k d p hw ho h1.1
theorem ex_move {a : Act} {w : World} {o : Oper} {e : Nat} (ho : o.op = .move (.tmp e)) : (execOp a.eval o).run P w = .ok (.value (a.tmps.getD e undef)) w := by unfold execOp; simp only [ho]; rfl
theorem ex_assign {a : Act} {w : World} {o : Oper} {e : Nat} (ho : o.op = .assign (.tmp e)) : (execOp a.eval o).run P w = .ok (.value (a.tmps.getD e undef)) w := by unfold execOp; simp only [ho]; rfl
theorem ex_convert {a : Act} {w w' : World} {o : Oper} {s d : TypeId} {e : Nat} {v v' : Value} (ho : o.op = .convert s d (.tmp e)) (hv : a.tmps.getD e undef = v) (hr : (convert s d v).run P w = .ok v' w') : (execOp a.eval o).run P w = .ok (.value v') w' := by
  unfold execOp; simp only [ho, Act.eval]; rw [hv, Sem.run_bind, hr]; rfl
theorem ex_slice {a : Act} {w w' : World} {o : Oper} {t : TypeId} {e f : Nat} {v u v' : Value} (ho : o.op = .slice t (.tmp e) none (some (.tmp f)) none) (hv : a.tmps.getD e undef = v) (hu : a.tmps.getD f undef = u) (hr : (Instr.sliceAt t v none (some u) none).run P w = .ok v' w') : (execOp a.eval o).run P w = .ok (.value v') w' := by
  unfold execOp; simp only [ho, Act.eval, Option.map_none, Option.map_some]; rw [hv, hu, Sem.run_bind, hr]; rfl
theorem ex_build {a : Act} {w w' : World} {o : Oper} {t : TypeId} {e : Nat} {v v' : Value} (ho : o.op = .buildSlice t 1 #[(0, .tmp e)]) (hv : a.tmps.getD e undef = v) (hr : (Instr.buildSlice t 1 #[(0, v)]).run P w = .ok v' w') : (execOp a.eval o).run P w = .ok (.value v') w' := by
  subst hv
  unfold execOp; simp only [ho, Act.eval, List.map_toArray, List.map_cons, List.map_nil]; rw [Sem.run_bind, hr]; rfl
theorem ex_bin {a : Act} {w : World} {o : Oper} {op : BinOp} {t u : TypeId} {e f : Nat} {x y v' : Value} (ho : o.op = .binOp op t (.tmp e) (.tmp f) u) (hx : a.tmps.getD e undef = x) (hy : a.tmps.getD f undef = y) (hr : (do eqGuard op t (.tmp e) (.tmp f) x y; binOp op t x y : Sem Value).run P w = .ok v' w) : (execOp a.eval o).run P w = .ok (.value v') w := by
  subst hx hy
  unfold execOp; simp only [ho, Act.eval]; rw [Sem.run_bind]; rw [hr]; rfl

/-- The region, by the invariant. -/
theorem wp_region_inv {id : Nat} {a : Act} {w : World} (hm : P.follows .mixedOrders = true) (Spec : Nat → Value → World → Prop) (base : List Nat) (n : Nat) (W : World → Prop)
    (h0 : a.tmps.size = n ∧ a.defers = [] ∧ W { w with drawn := w.drawn + 1 } ∧ Holds Spec base a { w with drawn := w.drawn + 1 })
    (hstep : ∀ listed a w, Inv ops Spec base n W listed a w → ∀ i ∈ Region.ready .any ops listed, wpOp P ops Q i (fun a' w' => Inv ops Spec base n W (listed.setIfInBounds i true) a' w') a w)
    (hend : ∀ a w, a.tmps.size = n → a.defers = [] → W w → Holds Spec base a w → (∀ (i : Nat) (o : Oper) (d : Nat), ops[i]? = some o → o.dst = some d → Spec d (a.tmps.getD d undef) w) → Q .normal a w)
    (hb : backwards ops = true) : (Code.region id ops true).wp P Q a w := by
  refine wp_region_any hm (wpAny_inv (Inv ops Spec base n W) hstep ?_ _ _ _ _ (by rw [left_new]; exact Nat.le_refl _) ?_)
  · intro listed a w hI hr
    refine hend a w hI.size hI.defers hI.world hI.base fun i o d hi hd => ?_
    exact hI.up i o d hi (all_up hb hI.lsize hr i (Array.getElem?_eq_some_iff.1 hi).1) hd
  · refine ⟨h0.1, h0.2.1, h0.2.2.1, h0.2.2.2, ?_, by simp⟩
    intro i o d hi hl
    have hlt : i < ops.size := (Array.getElem?_eq_some_iff.1 hi).1
    simp [hlt] at hl
end
end Go.Proofs.YtbblmpibekkbfaaDoor.Fr
