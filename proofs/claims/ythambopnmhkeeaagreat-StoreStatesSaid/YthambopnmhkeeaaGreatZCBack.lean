/- slices.Backward over a row of numbers: the contract of its iterator; laws on a cache's map inside a round. -/
import Derived.Test.YthambopnmhkeeaaGreatZCBase
import Derived.RangeFuncWrites
import Derived.RangeFuncBox
import Derived.RangeFuncLeaves
import Derived.RangeFuncCalls
import Derived.Shelf.Abstract
import Derived.Shelf.RegionOpen
import Derived.OwnWalkIn
import Derived.TacticsInMore
import Derived.LoopNIn
import Derived.LoopIn
import Derived.Maps.OwnIn
import Derived.Test.YthambopnmhkeeaaGreatZWMath
import Derived.IntWalk
import Derived.Deep.QuietTactic
import Derived.BigQuiet
import Derived.RegionIn

set_option maxRecDepth 100000
namespace Go.Proofs.YthambopnmhkeeaaGreat.Ca
open Go.RowKit Go.Shelf
attribute [local go_sem] Oper.semAt_some
def bw (n : Nat) : List (Fin n) := (List.finRange n).reverse
theorem bw_length (n : Nat) : (bw n).length = n := by simp [bw]
theorem bw_get (n k : Nat) (h : k < n) : (bw n)[k]'(by rw [bw_length]; exact h) = ⟨n - 1 - k, by omega⟩ := by
 unfold bw
 rw [List.getElem_reverse]
 simp
theorem bw_take (n k : Nat) (h : k < n) : (bw n).take (k + 1) = (bw n).take k ++ [⟨n - 1 - k, by omega⟩] := by
 rw [List.take_succ_eq_append_getElem (by rw [bw_length]; exact h), bw_get n k h]
abbrev bEnc (O : List Int) : Fin O.length -> Array Value := fun x => #[.int .i64 ((x.1 : Nat) : Int), .int .i64 O[x.1]]
set_option maxHeartbeats 2000000 in
theorem back1_in (n : Nat) (hn : 1 <= n) (l Bs n₀ g cap : Nat) (O : List Int) (h0 : 0 < O.length) (hlen : O.length <= 5000) (hb : g < n₀) (J Jx : List (Fin O.length) -> World -> Prop)
  (hY : ∀ pre x W, J pre W -> pre.length < O.length -> YieldAt Fence.wide (n - 1) Tryz.prog l (bEnc O x) W fun e W' =>
   (e = .returned (.bool true) /\ J (pre ++ [x]) W' /\ Below n₀ W W') \/ (e = .returned (.bool false) /\ Jx (pre ++ [x]) W'))
  (W : World) (hBn : Bs < n₀) (hBs : W.cell? ⟨Bs, 0, none⟩ = some (.slice (some ⟨g, 0, none⟩) O.length cap)) (hc : ∀ j (h : j < O.length), W.cell? ⟨g, j, none⟩ = some (.int .i64 O[j])) (hj0 : J [] W) :
  CallsIn Fence.wide n Tryz.prog 225 #[.func (.yield l) #[] #[], .pointer (some ⟨Bs, 0, none⟩)] W fun e W' => (∃ v, e = .returned v) /\
   ((∃ ys, ys = bw O.length /\ J ys W') \/ (∃ pre, (∃ k, k <= O.length /\ pre = (bw O.length).take k) /\ Jx pre W')) := by
 refine callsIn_of_wp Tryz.func225 rfl trivial ?_ rfl
 simp only [Tryz.ntmps225, List.size_toArray, List.length_cons, List.length_nil, Nat.reduceAdd, Nat.reduceSub, Array.replicate_succ, Array.replicate_zero, List.push_toArray, List.append_toArray, List.nil_append, List.cons_append]
 have HC := Lib.hid hc
 have HY := Lib.hid hY
 have HT := Lib.hid (bw_take O.length)
 clear hc hY
 gi_wp2
 gi_loopw [3] (fun i wr => ∃ r : Nat, r <= O.length /\ i = .int .i64 ((r : Int) - 1) /\ Hid (J ((bw O.length).take (O.length - r)) wr) /\ Hid (Below n₀ W wr))
  (fun i _ => (intOf i + 1).toNat)
 case atStart => exact ⟨O.length, Nat.le_refl _, rfl, (show J _ _ by rw [Nat.sub_self]; exact hj0), (show Below _ _ _ from Below.refl _ _)⟩
 case round =>
  obtain ⟨r, hr, rfl, HJ, HB⟩ := hrel
  cases r with
  | zero =>
   gi_wp2
   go_end0
   exact ⟨⟨_, rfl⟩, .inl ⟨_, rfl, by have := HJ.out; rwa [Nat.sub_zero, List.take_of_length_le (by rw [bw_length]; exact Nat.le_refl _)] at this⟩⟩
  | succ r =>
   have hrl : r < O.length := hr
   have er : ((r + 1 : Nat) : Int) - 1 = (r : Int) := by omega
   rw [er]
   have hr0 : (0 : Int) <= (r : Int) := by omega
   have hrz : (r : Int) < (O.length : Int) := by omega
   have hx := HY.out ((bw O.length).take (O.length - (r + 1))) ⟨r, hrl⟩ wr HJ.out (by rw [List.length_take, bw_length]; omega)
   have hcx : wr.cell? ⟨g, r, none⟩ = some (.int .i64 O[r]) := (HB.out.cell (p := ⟨g, r, none⟩) hb).trans (HC.out r hrl)
   have hcb : wr.cell? ⟨Bs, 0, none⟩ = some (.slice (some ⟨g, 0, none⟩) O.length cap) := (HB.out.cell (p := ⟨Bs, 0, none⟩) hBn).trans hBs
   obtain ⟨fn, tmps, assign, body, hy, hR⟩ := hx
   dsimp only [bEnc] at hy
   have HR := Lib.hid hR
   clear hR
   have HTk : Hid ((bw O.length).take (O.length - (r + 1)) ++ [⟨r, hrl⟩] = (bw O.length).take (O.length - r)) := by
    have := HT.out (O.length - (r + 1)) (by omega)
    rw [show O.length - r = O.length - (r + 1) + 1 by omega]
    show _ = _
    rw [this]
    congr 2
    exact Fin.ext (by simp; omega)
   generalize O[r] = xv at *
   gi_wp2
   refine HR.out.mono ?_
   rintro e W3 (⟨rfl, hJ3, hk3⟩ | ⟨rfl, hJx3⟩)
   ·have HJ3 : Hid (J ((bw O.length).take (O.length - r)) W3) := by show J _ _; rw [<- HTk.out]; exact hJ3
    have HB3 : Hid (Below n₀ W W3) := HB.out.trans hk3
    clear hJ3 hk3
    gi_wp2
    go_roundw
    case rel => exact ⟨r, by omega, rfl, HJ3, HB3⟩
    case measure => simp [intOf]
   ·have HJ3 : Hid (Jx ((bw O.length).take (O.length - r)) W3) := by show Jx _ _; rw [<- HTk.out]; exact hJx3
    clear hJx3
    gi_wp2
    refine bodyPost_ret (results_none rfl _ _ _) rfl ?_
    exact ⟨⟨_, rfl⟩, .inr ⟨_, ⟨O.length - r, by omega, rfl⟩, HJ3.out⟩⟩
end Go.Proofs.YthambopnmhkeeaaGreat.Ca
/- A region that draws its order inside a round, by an invariant; and the one of makeRoom. -/
namespace Go.Proofs.YthambopnmhkeeaaGreat.Ca
open Go.RowKit
open Fr (ownSlots waitsOf backwards all_up shapeOf shape_at shape_is left_set left_new)
section
variable {F : Fence} {n : Nat} {P : Program} {ops : Array Oper} {Q : Exit -> Act -> World -> Prop}
theorem wpAnyIn_inv (I : Array Bool -> Act -> World -> Prop)
  (hstep : ∀ listed a w, I listed a w -> ∀ i ∈ Region.ready .any ops listed, wpOpIn F n P ops Q i (fun a' w' => I (listed.setIfInBounds i true) a' w') a w)
  (hend : ∀ listed a w, I listed a w -> Region.ready .any ops listed = [] -> Q .normal a w) :
  ∀ (fuel : Nat) (listed : Array Bool) (a : Act) (w : World), Fr.left listed <= fuel -> I listed a w -> wpAnyIn F n P .any ops Q fuel listed a w := by
 intro fuel
 induction fuel with
 | zero =>
  intro listed a w hl hI
  have hr : Region.ready .any ops listed = [] := by
   apply List.eq_nil_iff_forall_not_mem.2
   intro i hi
   have := left_set (mem_ready.1 hi).1
   omega
  exact ⟨hr, hend _ _ _ hI hr⟩
 | succ fuel ih =>
  intro listed a w hl hI
  refine ⟨hend _ _ _ hI, fun i hi => ?_⟩
  have hlt := left_set (mem_ready.1 hi).1
  exact wpOpIn_mono (fun a' w' h => ih _ a' w' (by omega) h) (hstep _ _ _ hI i hi)
theorem wpIn_region_inv {id : Nat} {a : Act} {w : World} (hm : P.follows .mixedOrders = true) (I : Array Bool -> Act -> World -> Prop) (h0 : I (Array.replicate ops.size false) a { w with drawn := w.drawn + 1 })
  (hstep : ∀ listed a w, I listed a w -> ∀ i ∈ Region.ready .any ops listed, wpOpIn F n P ops Q i (fun a' w' => I (listed.setIfInBounds i true) a' w') a w)
  (hend : ∀ listed a w, I listed a w -> Region.ready .any ops listed = [] -> Q .normal a w) : (Code.region id ops true).wpIn F n P Q a w :=
 wpIn_region_any hm (wpAnyIn_inv I hstep hend _ _ _ _ (by rw [left_new]; exact Nat.le_refl _) h0)
end
section
variable {l n : Nat} {P : Program} {ops : Array Oper} {Q : Exit -> Act -> World -> Prop}
theorem stepIn_val {i : Nat} {o : Oper} {K : Act -> World -> Prop} {a : Act} {w w' : World} {v : Value} (hi : ops[i]? = some o) (hg : o.guard = none) (hd : ∀ c, o.op ≠ .defer c) (hr : (execOp a.eval o).run P w = .ok (.value v) w') (h : K (a.put o.dst v) w') : wpOpIn (Fence.wide.inRound l) n P ops Q i K a w := by
 unfold wpOpIn
 simp only [hi, Region.wanted, hg, if_true]
 refine ⟨fun _ _ => trivial, ?_⟩
 rw [Oper.semAt_eq _ _ _ hd, hr]
 exact h
theorem stepIn_skip {i : Nat} {o : Oper} {K : Act -> World -> Prop} {a : Act} {w w' : World} (hi : ops[i]? = some o) (hg : o.guard = none) (hd : ∀ c, o.op ≠ .defer c) (hr : (execOp a.eval o).run P w = .ok .skip w') (h : K (a.put o.dst undef) w') : wpOpIn (Fence.wide.inRound l) n P ops Q i K a w := by
 unfold wpOpIn
 simp only [hi, Region.wanted, hg, if_true]
 refine ⟨fun _ _ => trivial, ?_⟩
 rw [Oper.semAt_eq _ _ _ hd, hr]
 exact h
theorem stepIn_call {i : Nat} {o : Oper} {K : Act -> World -> Prop} {a : Act} {w : World} {v : Value} {f : FuncId} {args : Array Value} {G : World -> Prop} (hi : ops[i]? = some o) (hg : o.guard = none) (hd : ∀ c, o.op ≠ .defer c) (hr : (execOp a.eval o).run P w = .ok (.enter f args) w)
  (hc : Calls P f args w fun e w' => e = .returned v /\ G w') (h : ∀ w', G w' -> K (a.put o.dst v) w') : wpOpIn (Fence.wide.inRound l) n P ops Q i K a w := by
 unfold wpOpIn
 simp only [hi, Region.wanted, hg, if_true]
 refine ⟨fun _ _ => trivial, ?_⟩
 rw [Oper.semAt_eq _ _ _ hd, hr]
 refine ⟨fun hd' => (by cases hd'), CallsIn.mono (CallsIn.inRound l (callsIn_wide.2 hc)) fun e w' ⟨he, hF⟩ => ?_⟩
 subst he
 exact h w' hF
end
structure Fm (ops : Array Oper) (T : Array Value) (base : List Nat) (listed : Array Bool) (a : Act) : Prop where
 size : a.tmps.size = T.size
 defers : a.defers = []
 base : ∀ d ∈ base, a.tmps.getD d undef = T.getD d undef
 up : ∀ (i : Nat) (o : Oper) (d : Nat), ops[i]? = some o -> listed.getD i false = true -> o.dst = some d -> a.tmps.getD d undef = T.getD d undef
 lsize : listed.size = ops.size
section
variable {ops : Array Oper} {T : Array Value} {base : List Nat} {listed : Array Bool} {a : Act}
theorem Fm.put (h : Fm ops T base listed a) (hown : ownSlots ops base T.size = true) {i : Nat} {o : Oper} {d : Nat} (hi : ops[i]? = some o) (hd : o.dst = some d) {v : Value} (hv : v = T.getD d undef) : Fm ops T base (listed.setIfInBounds i true) (a.put o.dst v) := by
 have := Fr.Inv.put (ops := ops) (Spec := fun d v _ => v = T.getD d undef) (base := base) (n := T.size) (W := fun _ => True) (listed := listed) (a := a) (w := default) (w' := default)
  ⟨h.size, h.defers, trivial, h.base, h.up, h.lsize⟩ hown hi hd (v := v) trivial (fun _ _ x => x) hv
 exact ⟨this.size, this.defers, this.base, this.up, this.lsize⟩
theorem Fm.none (h : Fm ops T base listed a) {i : Nat} {o : Oper} (hi : ops[i]? = some o) (hd : o.dst = none) (v : Value) : Fm ops T base (listed.setIfInBounds i true) (a.put o.dst v) := by
 have e : a.put o.dst v = a := by rw [hd]; rfl
 rw [e]
 refine ⟨h.size, h.defers, h.base, fun j p q hj hl hq => ?_, by simp [h.lsize]⟩
 by_cases hji : j = i
 ·subst hji; rw [hi] at hj; cases hj; rw [hd] at hq; cases hq
 ·refine h.up j p q hj ?_ hq
  rw [Array.getD_eq_getD_getElem?, Array.getElem?_setIfInBounds, if_neg (Ne.symm hji), <- Array.getD_eq_getD_getElem?] at hl
  exact hl
theorem Fm.seen (h : Fm ops T base listed a) {l : List (Option Tmp × Op × Bool)} (hl : ops.toList.map shapeOf = l) {i : Nat} (hr : i ∈ Region.ready .any ops listed) (k : Nat) {d : Nat} {op : Op} {b : Bool} (hk : l[k]? = some (some d, op, b)) (hw : waitsOf ops i k = true) : a.tmps.getD d undef = T.getD d undef :=
 Fr.Inv.seen (ops := ops) (Spec := fun d v _ => v = T.getD d undef) (base := base) (n := T.size) (W := fun _ => True) (listed := listed) (a := a) (w := default)
  ⟨h.size, h.defers, trivial, h.base, h.up, h.lsize⟩ hl hr k hk hw
end
def delShape : List (Option Tmp × Op × Bool) := [
 (some 42, .load 94 (.tmp 1), true), (some 43, .load 94 (.tmp 1), true), (some 44, .nilCheck (.tmp 43), true), (some 45, .fieldAddr 177 (.tmp 44) 3, true), (some 46, .load 175 (.tmp 45), true),
 (some 47, .move (.tmp 3), true), (some 48, .move (.tmp 3), true), (some 49, .binOp .add 3 (.tmp 48) (.const (.int .i64 1)) 3, true),
 (some 50, .call { callee := .value (.func 212), args := #[.tmp 46, .tmp 47, .tmp 49], argTypes := #[175, 3, 3] }, true),
 (some 51, .nilCheck (.tmp 42), true), (some 52, .fieldAddr 177 (.tmp 51) 3, true), (none, .store 175 (.tmp 52) (.tmp 50), true)]
structure DelM (w3 w : World) (p g hb cap : Nat) (O : List Int) (x : Nat) : Prop where
 row : w.ownsRow 0 3 1 (.slice (some ⟨g, 0, none⟩) (O.length - 1) cap) (O.length - 1) ((O.eraseIdx x).map (Value.int .i64))
 only : Only (fun k => k = g) w3 w
 box : w.cell? ⟨hb, 0, none⟩ = some (.pointer (some ⟨p, 0, none⟩))
 fld : ∃ u, w.cell? ⟨p, 3, none⟩ = some u
 fr : w.frozen? ⟨p, 3, none⟩ = false
def DelW (w3 : World) (p g hb cap : Nat) (O : List Int) (x : Nat) (listed : Array Bool) (w : World) : Prop :=
 (listed.getD 8 false = false /\ listed.getD 11 false = false /\ w = w3.drew) \/ (listed.getD 8 false = true /\ listed.getD 11 false = false /\ listed.getD 4 false = true /\ DelM w3 w p g hb cap O x) \/
 (listed.getD 8 false = true /\ listed.getD 11 false = true /\ listed.getD 4 false = true /\ ∃ w4, DelM w3 w4 p g hb cap O x /\ w = w4.setCell ⟨p, 3, none⟩ (.slice (some ⟨g, 0, none⟩) (O.length - 1) cap))
theorem getD_other {listed : Array Bool} {i j : Nat} (h : j ≠ i) : (listed.setIfInBounds i true).getD j false = listed.getD j false := by
 rw [Array.getD_eq_getD_getElem?, Array.getElem?_setIfInBounds, if_neg (Ne.symm h), <- Array.getD_eq_getD_getElem?]
theorem not_listed {listed : Array Bool} {i : Nat} (h : listed.getD i true = false) : listed.getD i false = false := by
 rw [Array.getD_eq_getD_getElem?] at h ⊢
 cases e : listed[i]? with
 | none => rfl
 | some b => rw [e] at h; simpa using h
theorem listed_set {listed : Array Bool} {i : Nat} (h : i < listed.size) : (listed.setIfInBounds i true).getD i false = true := by
 rw [Array.getD_eq_getD_getElem?, Array.getElem?_setIfInBounds]; simp [h]
theorem rep_getD (n i : Nat) : (Array.replicate n false).getD i false = false := by
 rw [Array.getD_eq_getD_getElem?]
 by_cases h : i < n <;> simp [h]
theorem wait_listed {ops : Array Oper} {listed : Array Bool} {i k : Nat} (hr : i ∈ Region.ready .any ops listed) (hw : waitsOf ops i k = true) : listed.getD k false = true := by
 obtain ⟨_, o, ho, hall⟩ := mem_ready.1 hr
 unfold waitsOf at hw
 rw [ho] at hw
 obtain ⟨e, he0, hb⟩ := List.any_eq_true.1 hw
 have he : e ∈ o.after := Array.mem_toList_iff.1 he0
 simp only [Bool.and_eq_true, beq_iff_eq] at hb
 have := hall e he hb.1
 rwa [hb.2] at this
theorem DelW.keep {w3 w : World} {p g hb cap x : Nat} {O : List Int} {listed : Array Bool} (h : DelW w3 p g hb cap O x listed w) {i : Nat} (h4 : i ≠ 8) (h5 : i ≠ 11) : DelW w3 p g hb cap O x (listed.setIfInBounds i true) w := by
 have h44 : listed.getD 4 false = true -> (listed.setIfInBounds i true).getD 4 false = true := by
  intro h
  by_cases e : i = 4
  ·subst e
   rw [Array.getD_eq_getD_getElem?, Array.getElem?_setIfInBounds]
   rw [Array.getD_eq_getD_getElem?] at h
   by_cases hl : 4 < listed.size
   ·simp [hl]
   ·simp [hl] at h
  ·rw [getD_other (Ne.symm e)]; exact h
 unfold DelW at h ⊢
 rw [getD_other (Ne.symm h4), getD_other (Ne.symm h5)]
 rcases h with h | ⟨h1, h2, h3, h⟩ | ⟨h1, h2, h3, h⟩
 ·exact .inl h
 ·exact .inr (.inl ⟨h1, h2, h44 h3, h⟩)
 ·exact .inr (.inr ⟨h1, h2, h44 h3, h⟩)
section
variable {l n : Nat} {ops : Array Oper} {Q : Exit -> Act -> World -> Prop} {w3 : World} {p g hb cap x : Nat} {O : List Int} {T : Array Value} {base : List Nat}
set_option maxHeartbeats 1000000 in
theorem del_region {id : Nat} {a : Act} (hm : Tryz.prog.follows .mixedOrders = true) (hsh : ops.toList.map shapeOf = delShape) (hown : ownSlots ops base T.size = true) (hback : backwards ops = true)
  (hw1 : waitsOf ops 2 1 = true) (hw2 : waitsOf ops 3 2 = true) (hw3 : waitsOf ops 4 3 = true) (hw4 : waitsOf ops 7 6 = true) (hw5 : waitsOf ops 8 4 = true) (hw6 : waitsOf ops 8 5 = true) (hw7 : waitsOf ops 8 7 = true) (hw8 : waitsOf ops 9 0 = true) (hw9 : waitsOf ops 10 9 = true) (hw10 : waitsOf ops 11 10 = true) (hw11 : waitsOf ops 11 8 = true)
  (hb1 : 1 ∈ base) (hb3 : 3 ∈ base)
  (T1 : T.getD 1 undef = .pointer (some ⟨hb, 0, none⟩)) (T3 : T.getD 3 undef = .int .i64 (x : Int)) (T42 : T.getD 42 undef = .pointer (some ⟨p, 0, none⟩)) (T43 : T.getD 43 undef = .pointer (some ⟨p, 0, none⟩)) (T44 : T.getD 44 undef = .pointer (some ⟨p, 0, none⟩)) (T45 : T.getD 45 undef = .pointer (some ⟨p, 3, none⟩)) (T46 : T.getD 46 undef = .slice (some ⟨g, 0, none⟩) O.length cap)
  (T47 : T.getD 47 undef = .int .i64 (x : Int)) (T48 : T.getD 48 undef = .int .i64 (x : Int)) (T49 : T.getD 49 undef = .int .i64 ((x : Int) + 1)) (T50 : T.getD 50 undef = .slice (some ⟨g, 0, none⟩) (O.length - 1) cap) (T51 : T.getD 51 undef = .pointer (some ⟨p, 0, none⟩)) (T52 : T.getD 52 undef = .pointer (some ⟨p, 3, none⟩))
  (ha : a.tmps.size = T.size) (hdf : a.defers = []) (hba : ∀ d ∈ base, a.tmps.getD d undef = T.getD d undef) (hTs : T.size = 53) (hbs : ∀ d, d < 42 -> d ∈ base)
  (hx : x < O.length) (hol : O.length <= 5000)
  (row : w3.ownsRow 0 3 1 (.slice (some ⟨g, 0, none⟩) O.length cap) O.length (O.map (Value.int .i64))) (hgb : hb ≠ g) (hgp : p ≠ g) (hbl : hb < w3.heap.size) (hpl : p < w3.heap.size)
  (c0 : w3.cell? ⟨hb, 0, none⟩ = some (.pointer (some ⟨p, 0, none⟩))) (c3 : w3.cell? ⟨p, 3, none⟩ = some (.slice (some ⟨g, 0, none⟩) O.length cap)) (f3 : w3.frozen? ⟨p, 3, none⟩ = false) :
  (Code.region id ops true).wpIn (Fence.wide.inRound l) n Tryz.prog (fun e a' w' => e = .normal /\ a' = { tmps := T, defers := [] } /\ ∃ w4, DelM w3 w4 p g hb cap O x /\ w' = w4.setCell ⟨p, 3, none⟩ (.slice (some ⟨g, 0, none⟩) (O.length - 1) cap)) a w3 := by
 have hall : ∀ d, d < T.size -> d ∈ base \/ ∃ (i : Nat) (o : Oper), ops[i]? = some o /\ o.dst = some d := by
  intro d hd
  by_cases h42 : d < 42
  ·exact .inl (hbs d h42)
  ·right
   have hdec : ∀ i, i < 11 -> (delShape[i]?).map (·.1) = some (some (42 + i)) := by decide
   have h1 := hdec (d - 42) (by omega)
   rw [<- hsh, List.getElem?_map, Array.getElem?_toList] at h1
   cases ho : ops[d - 42]? with
   | none => rw [ho] at h1; cases h1
   | some o =>
    rw [ho] at h1
    simp only [Option.map_some, Option.some.injEq, shapeOf] at h1
    exact ⟨d - 42, o, ho, by rw [h1, Nat.add_sub_cancel' (by omega)]⟩
 have hsz : ops.size = 12 := by have := congrArg List.length hsh; simpa [delShape] using this
 refine wpIn_region_inv hm (fun listed a w => Fm ops T base listed a /\ DelW w3 p g hb cap O x listed w) ⟨⟨ha, hdf, hba, fun i o d hi hl => ?_, by simp⟩, .inl ⟨rep_getD _ _, rep_getD _ _, rfl⟩⟩ ?_ ?_
 ·have hlt := (Array.getElem?_eq_some_iff.1 hi).1
  simp [hlt] at hl
 ·rintro listed a w ⟨h, hW⟩ i hr
  obtain ⟨hun, o, ho, hready⟩ := mem_ready.1 hr
  have hlt : i < 12 := by have := (Array.getElem?_eq_some_iff.1 ho).1; omega
  have cb : w.cell? ⟨hb, 0, none⟩ = some (.pointer (some ⟨p, 0, none⟩)) := by
   rcases hW with ⟨_, _, rfl⟩ | ⟨_, _, _, hM⟩ | ⟨_, _, _, w4, hM, rfl⟩
   ·exact c0
   ·exact hM.box
   ·rw [World.cell?_setCell_other _ _ _ _ (by simp)]; exact hM.box
  have nodef : ∀ {op : Op}, o.op = op -> (∀ c, op ≠ .defer c) -> ∀ c, o.op ≠ .defer c := fun e h c => by rw [e]; exact h c
  have val : ∀ {d : Nat} {op : Op} {v : Value}, delShape[i]? = some (some d, op, true) -> (∀ c, op ≠ .defer c) -> (o.op = op -> (execOp a.eval o).run Tryz.prog w = .ok (.value v) w) -> v = T.getD d undef -> i ≠ 8 -> i ≠ 11 ->
    wpOpIn (Fence.wide.inRound l) n Tryz.prog ops (fun e a' w' => e = .normal /\ a' = { tmps := T, defers := [] } /\ ∃ w4, DelM w3 w4 p g hb cap O x /\ w' = w4.setCell ⟨p, 3, none⟩ (.slice (some ⟨g, 0, none⟩) (O.length - 1) cap)) i (fun a' w' => Fm ops T base (listed.setIfInBounds i true) a' /\ DelW w3 p g hb cap O x (listed.setIfInBounds i true) w') a w := by
   intro d op v hl hnd hr hv h4 h5
   obtain ⟨e1, e2, e3⟩ := shape_is hsh ho hl
   exact stepIn_val ho e3 (nodef e2 hnd) (hr e2) ⟨h.put hown ho e1 hv, hW.keep h4 h5⟩
  match i, hlt with
  | 0, _ =>
   refine val (d := 42) (v := .pointer (some ⟨p, 0, none⟩)) rfl (fun c => by simp) (fun hop => ?_) T42.symm (by omega) (by omega)
   have hv : a.tmps.getD 1 undef = .pointer (some ⟨hb, 0, none⟩) := (h.base 1 hb1).trans T1
   unfold execOp; simp only [hop, Act.eval]; rw [hv]
   go_simp
  | 1, _ =>
   refine val (d := 43) (v := .pointer (some ⟨p, 0, none⟩)) rfl (fun c => by simp) (fun hop => ?_) T43.symm (by omega) (by omega)
   have hv : a.tmps.getD 1 undef = .pointer (some ⟨hb, 0, none⟩) := (h.base 1 hb1).trans T1
   unfold execOp; simp only [hop, Act.eval]; rw [hv]
   go_simp
  | 2, _ =>
   refine val (d := 44) (v := .pointer (some ⟨p, 0, none⟩)) rfl (fun c => by simp) (fun hop => ?_) T44.symm (by omega) (by omega)
   have hv : a.tmps.getD 43 undef = .pointer (some ⟨p, 0, none⟩) := (h.seen hsh hr 1 rfl hw1).trans T43
   unfold execOp; simp only [hop, Act.eval]; rw [hv]
   go_simp
  | 3, _ =>
   refine val (d := 45) (v := .pointer (some ⟨p, 3, none⟩)) rfl (fun c => by simp) (fun hop => ?_) T45.symm (by omega) (by omega)
   have hv : a.tmps.getD 44 undef = .pointer (some ⟨p, 0, none⟩) := (h.seen hsh hr 2 rfl hw2).trans T44
   unfold execOp; simp only [hop, Act.eval]; rw [hv]
   go_simp
  | 4, _ =>
   refine val (d := 46) (v := .slice (some ⟨g, 0, none⟩) O.length cap) rfl (fun c => by simp) (fun hop => ?_) T46.symm (by omega) (by omega)
   have hv : a.tmps.getD 45 undef = .pointer (some ⟨p, 3, none⟩) := (h.seen hsh hr 3 rfl hw3).trans T45
   have cw : w.cell? ⟨p, 3, none⟩ = some (.slice (some ⟨g, 0, none⟩) O.length cap) := by
    rcases hW with ⟨_, _, rfl⟩ | ⟨_, _, h4, _⟩ | ⟨_, _, h4, _⟩
    ·exact c3
    ·rw [not_listed hun] at h4; cases h4
    ·rw [not_listed hun] at h4; cases h4
   unfold execOp; simp only [hop, Act.eval]; rw [hv]
   go_simp
  | 5, _ =>
   refine val (d := 47) (v := .int .i64 (x : Int)) rfl (fun c => by simp) (fun hop => ?_) T47.symm (by omega) (by omega)
   have hv : a.tmps.getD 3 undef = .int .i64 (x : Int) := (h.base 3 hb3).trans T3
   unfold execOp; simp only [hop, Act.eval]; rw [hv]
   go_simp
  | 6, _ =>
   refine val (d := 48) (v := .int .i64 (x : Int)) rfl (fun c => by simp) (fun hop => ?_) T48.symm (by omega) (by omega)
   have hv : a.tmps.getD 3 undef = .int .i64 (x : Int) := (h.base 3 hb3).trans T3
   unfold execOp; simp only [hop, Act.eval]; rw [hv]
   go_simp
  | 7, _ =>
   refine val (d := 49) (v := .int .i64 ((x : Int) + 1)) rfl (fun c => by simp) (fun hop => ?_) T49.symm (by omega) (by omega)
   have hv : a.tmps.getD 48 undef = .int .i64 (x : Int) := (h.seen hsh hr 6 rfl hw4).trans T48
   have hwr : IntKind.i64.wrap ((x : Int) + 1) = (x : Int) + 1 := IntWalk.i64_in _ (by omega)
   unfold execOp; simp only [hop, Act.eval]; rw [hv]
   go_simp
  | 8, _ =>
   obtain ⟨e1, e2, e3⟩ := shape_is hsh ho (d := 50) (op := .call { callee := .value (.func 212), args := #[.tmp 46, .tmp 47, .tmp 49], argTypes := #[175, 3, 3] }) rfl
   have hv1 : a.tmps.getD 46 undef = .slice (some ⟨g, 0, none⟩) O.length cap := (h.seen hsh hr 4 rfl hw5).trans T46
   have hv2 : a.tmps.getD 47 undef = .int .i64 (x : Int) := (h.seen hsh hr 5 rfl hw6).trans T47
   have hv3 : a.tmps.getD 49 undef = .int .i64 ((x : Int) + 1) := (h.seen hsh hr 7 rfl hw7).trans T49
   obtain ⟨h8, h11, rfl⟩ : listed.getD 8 false = false /\ listed.getD 11 false = false /\ w = w3.drew := by
    rcases hW with h' | ⟨h', _⟩ | ⟨h', _⟩
    ·exact h'
    ·rw [not_listed hun] at h'; cases h'
    ·rw [not_listed hun] at h'; cases h'
   have hc := delete_any (w := w3.drew) (O := O) (g := g) (cap := cap) (k := x) row hx
   refine stepIn_call ho e3 (nodef e2 (fun c => by simp)) (f := 212) (args := #[.slice (some ⟨g, 0, none⟩) O.length cap, .int .i64 (x : Int), .int .i64 ((x : Int) + 1)]) (G := fun w' => DelM w3 w' p g hb cap O x) (v := .slice (some ⟨g, 0, none⟩) (O.length - 1) cap) ?_ (hc.mono fun e w' ⟨he, hrow, hon⟩ => ⟨he, hrow, ?_, ?_, ?_, ?_⟩) (fun w' hM => ⟨h.put hown ho e1 T50.symm, .inr (.inl ⟨?_, ?_, ?_, hM⟩)⟩)
   ·unfold execOp
    simp only [e2, resolve, Act.eval, List.map_toArray, List.map_cons, List.map_nil, hv1, hv2, hv3]
    kernel_rfl
   ·exact ⟨hon.os, hon.tape, hon.output, hon.size, hon.block⟩
   ·exact (hon.cell (p := ⟨hb, 0, none⟩) hbl hgb).trans c0
   ·exact ⟨_, (hon.cell (p := ⟨p, 3, none⟩) hpl hgp).trans c3⟩
   ·exact (World.frozen?_of_block (hon.block p hpl hgp)).trans f3
   ·exact listed_set (by rw [h.lsize]; omega)
   ·rw [getD_other (by omega)]; exact h11
   ·rw [getD_other (by omega)]; exact wait_listed hr hw5
  | 9, _ =>
   refine val (d := 51) (v := .pointer (some ⟨p, 0, none⟩)) rfl (fun c => by simp) (fun hop => ?_) T51.symm (by omega) (by omega)
   have hv : a.tmps.getD 42 undef = .pointer (some ⟨p, 0, none⟩) := (h.seen hsh hr 0 rfl hw8).trans T42
   unfold execOp; simp only [hop, Act.eval]; rw [hv]
   go_simp
  | 10, _ =>
   refine val (d := 52) (v := .pointer (some ⟨p, 3, none⟩)) rfl (fun c => by simp) (fun hop => ?_) T52.symm (by omega) (by omega)
   have hv : a.tmps.getD 51 undef = .pointer (some ⟨p, 0, none⟩) := (h.seen hsh hr 9 rfl hw9).trans T51
   unfold execOp; simp only [hop, Act.eval]; rw [hv]
   go_simp
  | 11, _ =>
   obtain ⟨e1, e2, e3⟩ : o.dst = none /\ o.op = .store 175 (.tmp 52) (.tmp 50) /\ o.guard = none := by
    have := shape_at hsh ho
    simp only [delShape, List.getElem?_cons_succ, List.getElem?_cons_zero, Option.some.injEq, Prod.mk.injEq] at this
    exact ⟨this.1.symm, this.2.1.symm, Option.isNone_iff_eq_none.1 this.2.2.symm⟩
   have hv1 : a.tmps.getD 52 undef = .pointer (some ⟨p, 3, none⟩) := (h.seen hsh hr 10 rfl hw10).trans T52
   have hv2 : a.tmps.getD 50 undef = .slice (some ⟨g, 0, none⟩) (O.length - 1) cap := (h.seen hsh hr 8 rfl hw11).trans T50
   have h8 := wait_listed hr hw11
   obtain ⟨h4, hM⟩ : listed.getD 4 false = true /\ DelM w3 w p g hb cap O x := by
    rcases hW with ⟨h', _⟩ | ⟨_, _, h4, hM⟩ | ⟨_, h', _⟩
    ·rw [h8] at h'; cases h'
    ·exact ⟨h4, hM⟩
    ·rw [not_listed hun] at h'; cases h'
   obtain ⟨u, cu⟩ := hM.fld
   have fu := hM.fr
   refine stepIn_skip ho e3 (nodef e2 (fun c => by simp)) (w' := w.setCell ⟨p, 3, none⟩ (.slice (some ⟨g, 0, none⟩) (O.length - 1) cap)) ?_ ⟨h.none ho e1 _, .inr (.inr ⟨?_, listed_set (by rw [h.lsize]; omega), ?_, w, hM, rfl⟩)⟩
   ·unfold execOp; simp only [e2, Act.eval, hv1, hv2]
    go_simp
   ·rw [getD_other (by omega)]; exact h8
   ·rw [getD_other (by omega)]; exact h4
 ·rintro listed a w ⟨h, hW⟩ hr
  have hup := all_up hback h.lsize hr
  have hT : a.tmps = T := by
   apply Array.ext h.size
   intro d h1 h2
   have : a.tmps.getD d undef = T.getD d undef := by
    rcases hall d h2 with hd | ⟨i, o, hi, hd⟩
    ·exact h.base d hd
    ·exact h.up i o d hi (hup i (Array.getElem?_eq_some_iff.1 hi).1) hd
   simpa [h1, h2] using this
  refine ⟨rfl, ?_, ?_⟩
  ·have := h.defers
   cases a; simp at this hT ⊢; exact ⟨hT, this⟩
  ·rcases hW with ⟨h8, _⟩ | ⟨_, h11, _⟩ | ⟨_, _, _, h'⟩
   ·rw [hup 8 (by omega)] at h8; cases h8
   ·rw [hup 11 (by omega)] at h11; cases h11
   ·exact h'
end
end Go.Proofs.YthambopnmhkeeaaGreat.Ca
/- What makeRoom answers and leaves. -/
set_option maxRecDepth 100000
namespace Go.Proofs.YthambopnmhkeeaaGreat.Ca
open Go.RowKit Go.Shelf Go.Maps
attribute [local go_sem] Oper.semAt_some
set_option maxHeartbeats 1000000 in
theorem back_in (n : Nat) (a : Option Addr) (len cap : Nat) (w : World) :
  CallsIn Fence.wide n Tryz.prog 211 #[.slice a len cap] w fun e w' => e = .returned (.func (.func 225) #[] #[.pointer (some ⟨w.heap.size, 0, none⟩)]) /\ w' = w.alloc (.cells #[.slice a len cap] 175) := by
 refine callsIn_of_wp Tryz.func211 rfl trivial ?_ rfl
 simp only [Tryz.ntmps211, List.size_toArray, List.length_cons, List.length_nil, Nat.reduceAdd, Nat.reduceSub, Array.replicate_succ, Array.replicate_zero, List.push_toArray, List.append_toArray, List.nil_append, List.cons_append]
 gi_wp2
 go_ret
 exact ⟨rfl, rfl⟩
theorem back_stops (n : Nat) (hn : 1 <= n) (Bs n₀ g cap : Nat) (O : List Int) (h0 : 0 < O.length) (hlen : O.length <= 5000) (hb : g < n₀) (hBn : Bs < n₀) (w : World) (hn₀ : n₀ <= w.heap.size) (hBs : w.cell? ⟨Bs, 0, none⟩ = some (.slice (some ⟨g, 0, none⟩) O.length cap)) (hc : ∀ j (h : j < O.length), w.cell? ⟨g, j, none⟩ = some (.int .i64 O[j])) :
  SeqStopsK Fence.wide n Tryz.prog 225 #[.pointer (some ⟨Bs, 0, none⟩)] (bEnc O) (Below n₀) (fun ys => ys = bw O.length) (fun pre => ∃ k, k <= O.length /\ pre = (bw O.length).take k) O.length w := fun l J Jx W hW _ _ hY hj0 =>
 back1_in n hn l Bs n₀ g cap O h0 hlen hb J Jx hY W hBn ((hW.cell (p := ⟨Bs, 0, none⟩) (by show Bs < _; omega)).trans hBs) (fun j h => (hW.cell (p := ⟨g, j, none⟩) (by show g < _; omega)).trans (hc j h)) hj0
theorem box_pair (w : World) (p : Nat) : ∃ W, (w.alloc (.cells #[.pointer (some ⟨p, 0, none⟩)] 94)).alloc (.cells #[.int .i64 0] 30) = W /\ W.cell? ⟨w.heap.size, 0, none⟩ = some (.pointer (some ⟨p, 0, none⟩)) /\ W.cell? ⟨w.heap.size + 1, 0, none⟩ = some (.int .i64 0) /\ W.frozen? ⟨w.heap.size + 1, 0, none⟩ = false /\ Below w.heap.size w W /\ W.heap.size = w.heap.size + 2 := by
 have hs : (w.alloc (.cells #[.pointer (some ⟨p, 0, none⟩)] 94)).heap.size = w.heap.size + 1 := by simp
 have e0 : (w.alloc (.cells #[.pointer (some ⟨p, 0, none⟩)] 94)).cell? ⟨w.heap.size, 0, none⟩ = some (.pointer (some ⟨p, 0, none⟩)) := by rw [World.cell?_alloc_mark]; rfl
 refine ⟨_, rfl, ?_, ?_, ?_, ((Below.refl _ _).alloc (Nat.le_refl _) _).alloc (by simp) _, by simp⟩
 ·rw [World.cell?_of_block (w := w.alloc (.cells #[.pointer (some ⟨p, 0, none⟩)] 94)) (Below.heap_alloc _ _ _ (by simp))]; exact e0
 ·rw [<- hs, World.cell?_alloc_mark]; rfl
 ·rw [<- hs, World.frozen?_alloc_mark]; rfl
section
variable {S : Nat -> Prop} {w w' : World} {p bm : Nat} {src ov : Value} {C C' : CS}
set_option maxHeartbeats 1000000 in
theorem room_has (h : CB S w p bm src ov C) (hl : C.L.length < C.most) :
  Calls Tryz.prog 190 #[.pointer (some ⟨p, 0, none⟩)] w fun e w' => e = .returned (.int .i64 0) /\ Below w.heap.size w w' := by
 obtain ⟨ao, cap, hov⟩ := own_shape h.raw.hr
 rw [keys_len] at hov
 subst hov
 have hb := Lib.hid h
 have hm1 := h.ok.m1
 have c1 := h.raw.c1
 have c3 := h.raw.c3
 have hlt := h.raw.lt
 generalize C.L.length = n at *
 generalize C.most = m at *
 have hz : (n : Int) < (m : Int) := by omega
 obtain ⟨W, hW, l0, l1, f1, hbl, hsz⟩ := box_pair w p
 have d1 := (hbl.cell (p := ⟨p, 1, none⟩) hlt).trans c1
 have d3 := (hbl.cell (p := ⟨p, 3, none⟩) hlt).trans c3
 have HBL := Lib.hid hbl
 clear h hbl c1 c3 hsz
 go_enter Tryz.func190, Tryz.ntmps190
 go_wp2
 clear hW
 go_quiet (fail)
 go_wp2
 have hr : ((W.drewN nq).setCell ⟨w.heap.size + 1, 0, none⟩ (.int .i64 0)).cell? ⟨w.heap.size + 1, 0, none⟩ = some (.int .i64 0) := World.cell?_setCell_same' _ _ _ (by show (W.cell? _).isSome = true; rw [l1]; rfl)
 refine bodyPost_ret (v := .int .i64 0) (by simp [results, Tryz.f190, go_sem, hr]) rfl ⟨rfl, ?_⟩
 exact (HBL.out.trans (below_drewN (Below.refl _ _) nq)).setCell (by show w.heap.size <= w.heap.size + 1; omega) _
end
theorem bw_last {n k : Nat} {ini : List (Fin n)} {last : Fin n} (hk : k <= n) (e : (bw n).take k = ini ++ [last]) (y : Fin n) (hy : last.1 < y.1) : y ∈ ini := by
 cases k with
 | zero => simp at e
 | succ k =>
  rw [bw_take n k (by omega)] at e
  obtain ⟨rfl, e2⟩ := List.append_inj' e rfl
  have e3 : (⟨n - 1 - k, by omega⟩ : Fin n) = last := by simpa using e2
  rw [<- e3] at hy
  simp only at hy
  have hj : n - 1 - y.1 < k := by omega
  refine List.mem_iff_getElem.2 ⟨n - 1 - y.1, by rw [List.length_take, bw_length]; omega, ?_⟩
  rw [List.getElem_take, bw_get n _ (by omega)]
  exact Fin.ext (by simp; omega)
theorem keepsFrom_only {T : Nat -> Prop} {B : Nat} {W W' : World} (h : Only T W W') (hT : ∀ k, T k -> k < B) : KeepsFrom B W W' :=
 ⟨h.size, fun k o hB hk _ => (h.block k (Array.getElem?_eq_some_iff.1 hk).1 (fun t => by have := hT k t; omega)).trans hk⟩
theorem grown_only {W W' : World} {row : Option Nat} (h : W.grownBy W' row) : Only (fun k => row = some k) W W' :=
 ⟨h.os, h.tape, h.output, h.size, fun k hk hne => h.block k hk (fun e => hne e.symm)⟩
section
variable {F : Fence} {nF : Nat} {ops : Array Oper} {rest : List Oper} {o : Oper} {a : Act} {Q : Exit -> Act -> World -> Prop} {b : Nat} {L : List Kp} {i : Int}
theorem wpListIn_has_yes (w : World) (hg : o.guard = none) (m x : Operand) (hop : o.op = Op.lookup 174 m x false) (hm : a.eval m = .map (some b)) (hx : a.eval x = .int .i64 i) (h : MapL w b L) (hn : (keys L).Nodup) (hw : Wf L) (k : Nat) (y : Kp) (hf : fx L i = some (k, y))
  (hK : wpListIn F nF Tryz.prog ops Q rest (a.put o.dst (.agg #[.string y.data, .bool y.dirty, .int .i64 (y.pins : Int)])) w) : wpListIn F nF Tryz.prog ops Q (o :: rest) a w := by
 obtain ⟨hk, h1, h2, _⟩ := fx_some hf
 have hi : -9223372036854775808 <= i /\ i <= 9223372036854775807 := by rw [<- h2]; exact hw y (fx_mem hf)
 refine wpListIn_plain hg fun K' hK' => ?_
 obtain ⟨v, ps, hrun, hv⟩ := World.ownsMap.lookup h klaw Tryz.underlying174 (zeroSt w) (stE_mk ⟨#[]⟩ false 0) (keyI hi)
 rw [atKey_yes hn hw hf] at hv
 rw [stE_dat hv] at hrun
 unfold Oper.wpIn
 refine ⟨by simp [Oper.about, hop], ?_⟩
 rw [Oper.semAt_plain F _ _ (by rw [hop]; intro c hc'; cases hc')]
 simp [execOp, hop, hm, hx, hrun, Result.andThen]
 exact hK' _ _ hK
theorem wpListIn_del (w : World) (hg : o.guard = none) (m x : Operand) (hop : o.op = Op.call { callee := Callee.builtin Builtin.delete, args := #[m, x], argTypes := #[174, 3] }) (hm : a.eval m = .map (some b)) (hx : a.eval x = .int .i64 i) (h : MapL w b L) (hi : -9223372036854775808 <= i /\ i <= 9223372036854775807) (M : List Kp)
  (hdel : (toD L).del (kl i) = toD M) (hK : ∀ w', Hid (MapL w' b M) -> Hid (Only (fun k => k = b) w w') -> wpListIn F nF Tryz.prog ops Q rest (a.put o.dst (.tuple #[])) w') : wpListIn F nF Tryz.prog ops Q (o :: rest) a w := by
 refine wpListIn_delete_own w hg m x 174 3 hop 180 klaw Tryz.underlying174 stE b L.length (toD L) hm h _ (kl i) hx (keyI hi) (fun w' hown hturn => ?_)
 rw [hdel] at hown
 exact hK w' (show MapL _ _ _ from MapL.of hown) (show Only _ _ _ from only_grown hturn.grown)
end
section
variable {S : Nat -> Prop} {w w' : World} {p bm : Nat} {src ov : Value} {C C' : CS}
def frK (C : CS) (y : Fin (keys C.L).length) : Bool := (C.L[y.1]'(by rw [<- keys_len]; exact y.2)).free
def RoomI (C : CS) (w0 : World) (pre : List (Fin (keys C.L).length)) (W : World) : Prop := (∀ y ∈ pre, frK C y = false) /\ Below w0.heap.size w0 W
def RoomX (S : Nat -> Prop) (C : CS) (w0 : World) (p bm rb : Nat) (src : Value) (c : Code) (pre : List (Fin (keys C.L).length)) (W : World) : Prop :=
 c = .ret /\ ∃ ini last, pre = ini ++ [last] /\ (∀ y ∈ ini, frK C y = false) /\ frK C last = true /\ (∃ ov', CB S W p bm src ov' { C with L := C.L.eraseIdx last.1 }) /\ W.cell? ⟨rb, 0, none⟩ = some (.int .i64 0) /\ Only (fun k => S k \/ k = rb) w0 W
theorem frame_eq {A T : Array Value} {k : Nat} (h : A.toList.take k = T.toList.take k) (d : Nat) (hd : d < k) : A.getD d undef = T.getD d undef := by
 have h1 := congrArg (fun l => l[d]?) h
 simp only [List.getElem?_take, hd, if_true, Array.getElem?_toList] at h1
 rw [Array.getD_eq_getD_getElem?, Array.getD_eq_getD_getElem?, h1]
theorem ok_erase {C : CS} (ok : C.Ok) (k : Nat) : ({ C with L := C.L.eraseIdx k } : CS).Ok := by
 have hs : (C.L.eraseIdx k).Sublist C.L := List.eraseIdx_sublist _ _
 exact ⟨ok.nodup.sublist (hs.map _), Nat.le_trans hs.length_le ok.len, ok.m0, ok.m1, ok.ms, fun z hz => ok.wf z (hs.subset hz), fun z hz => ok.ds z (hs.subset hz), fun z hz => ok.pn z (hs.subset hz)⟩
theorem room_end {WA w3 w4 : World} {g cap rb k : Nat} (h : CB S WA p bm src (.slice (some ⟨g, 0, none⟩) (keys C.L).length cap) C) (hm : MapL w3 bm (C.L.eraseIdx k)) (ho3 : Only (fun j => j = bm) WA w3) {hb : Nat} (hM : DelM w3 w4 p g hb cap (keys C.L) k) (hk : k < (keys C.L).length)
  (hrp : rb ≠ p) (hrg : rb ≠ g) (hrb : rb ≠ bm) (ok : ({ C with L := C.L.eraseIdx k } : CS).Ok) :
  CB S ((w4.setCell ⟨p, 3, none⟩ (.slice (some ⟨g, 0, none⟩) ((keys C.L).length - 1) cap)).setCell ⟨rb, 0, none⟩ (.int .i64 0)) p bm src (.slice (some ⟨g, 0, none⟩) ((keys C.L).length - 1) cap) { C with L := C.L.eraseIdx k } /\
   Only (fun j => S j \/ j = rb) WA ((w4.setCell ⟨p, 3, none⟩ (.slice (some ⟨g, 0, none⟩) ((keys C.L).length - 1) cap)).setCell ⟨rb, 0, none⟩ (.int .i64 0)) := by
 have hpb : ¬ p = bm := fun e => h.bp e.symm
 have hpg : ¬ p = g := fun e => h.raw.rp (by rw [e]; rfl)
 have hbg : ¬ bm = g := fun e => h.rb (by rw [e]; rfl)
 have hsz3 := ho3.size
 have hsz4 := hM.only.size
 have hpl := h.raw.lt
 have hbl := h.map.lt
 have hkl : (keys (C.L.eraseIdx k)).length = (keys C.L).length - 1 := by rw [keys_erase, List.length_eraseIdx, if_pos hk]
 have hp4 : w4.heap[p]? = some (.cells #[src, .int .i64 (C.most : Int), .map (some bm), .slice (some ⟨g, 0, none⟩) (keys C.L).length cap, .int .i64 (C.misses : Int)] 177 (0, 0)) := by
  rw [hM.only.block p (by omega) hpg, ho3.block p hpl hpb]; exact h.raw.hp
 have hon : Only (fun j => S j \/ j = rb) WA w4 := (ho3.mono (fun j _ e => .inl (e ▸ h.sb))).trans hM.only (fun j _ e => .inl (h.sr j (by rw [e]; rfl)))
 refine ⟨⟨ok, ⟨?_, ?_, h.raw.rp⟩, hm.kept ?_, h.bp, h.rb, h.sp, h.sb, h.sr, ?_⟩, (hon.setCell (fun _ => .inl h.sp) _).setCell (fun _ => .inr rfl) _⟩
 ·rw [Below.heap_setCell _ _ _ _ (Ne.symm hrp), heap_setCell_at hp4]; rfl
 ·have hr := hM.row
  rw [<- keys_erase] at hr
  show World.ownsRow _ 0 _ 1 _ (keys (C.L.eraseIdx k)).length _
  rw [hkl]
  exact ownsRow_setCell_other (ownsRow_setCell_other hr (by simpa [Value.ownBlock] using fun e => hpg e.symm) _) (by simpa [Value.ownBlock] using fun e => hrg e.symm) _
 ·rw [Below.heap_setCell _ _ _ _ (Ne.symm hrb), Below.heap_setCell _ _ _ _ (Ne.symm hpb), hM.only.block bm (by omega) hbg]
 ·intro j hj
  have := h.lt j hj
  simp [World.setCell]
  omega
theorem roomI_own (C : CS) (w0 : World) : OwnFrom w0.heap.size (RoomI C w0) := fun s A B row hs hg hr => ⟨hs.1, hs.2.grown hg hs.2.size (fun k e => (hr k e).1)⟩
theorem roomX_own {S : Nat -> Prop} {C : CS} {w0 : World} {p bm rb : Nat} {src : Value} (hS : ∀ k, S k -> k < w0.heap.size) (hrb : rb < w0.heap.size) (c : Code) : OwnFrom w0.heap.size (RoomX S C w0 p bm rb src c) := by
 rintro s A B row ⟨hc, ini, last, e1, e2, e3, ⟨ov', hB⟩, e4, e5⟩ hg hr
 have ho := grown_only hg
 have hne : ∀ k, k < w0.heap.size -> ¬ row = some k := fun k hk e => by have := (hr k e).1; omega
 refine ⟨hc, ini, last, e1, e2, e3, ⟨ov', hB.kept ho (fun k hk => hne k (hS k hk))⟩, ?_, e5.trans ho (fun i hi e => absurd e (hne i hi))⟩
 exact cell_kept e4 hg (fun r e => (hr r e).2)
set_option maxHeartbeats 1000000 in
theorem room_makes (h : CB S w p bm src ov C) (hl : ¬ C.L.length < C.most) :
  Calls Tryz.prog 190 #[.pointer (some ⟨p, 0, none⟩)] w fun e w' => Only S w w' /\ ((∃ k ov', lf C.L = some k /\ e = .returned (.int .i64 0) /\ CB S w' p bm src ov' { C with L := C.L.eraseIdx k }) \/ (lf C.L = none /\ e = .returned (.int .i64 14) /\ CB S w' p bm src ov C)) := by
 have hm0 := h.ok.m0
 have hm1 := h.ok.m1
 have hln := h.ok.len
 have hkl := keys_len C.L
 obtain ⟨g, cap, cur, hov, hjunk⟩ := row_form h.raw.hr (by omega)
 clear hjunk cur
 have hN0 : 0 < (keys C.L).length := by omega
 have hN1 : (keys C.L).length <= 5000 := by omega
 subst hov
 have HB := Lib.hid h
 have c1 := h.raw.c1
 have c3 := h.raw.c3
 have hlt := h.raw.lt
 have hgl : g < w.heap.size := (h.raw.hr.lt g rfl).2
 have HS := Lib.hid h.lt
 have hz : ¬ ((keys C.L).length : Int) < (C.most : Int) := by omega
 obtain ⟨W, hW, l0, l1, f1, hbl, hsz⟩ := box_pair w p
 have d1 := (hbl.cell (p := ⟨p, 1, none⟩) hlt).trans c1
 have d3 := (hbl.cell (p := ⟨p, 3, none⟩) hlt).trans c3
 have HBL := Lib.hid hbl
 have HZ := Lib.hid hsz
 clear h hbl c1 c3 hsz hkl hln
 refine (callsIn_wide (n := 5)).1 ?_
 refine callsIn_of_wp_marks Tryz.func190 rfl trivial ?_ rfl
 simp only [Tryz.ntmps190, List.size_toArray, List.length_cons, List.length_nil, Nat.reduceAdd, Nat.reduceSub, Array.replicate_succ, Array.replicate_zero, List.push_toArray, List.append_toArray, List.nil_append, List.cons_append]
 gi_wp2
 clear hW
 refine wpIn_wide.2 ?_
 go_quiet (fail)
 have d3' : (W.drewN nq).cell? ⟨p, 3, none⟩ = some (.slice (some ⟨g, 0, none⟩) (keys C.L).length cap) := d3
 gi_wp2_with (refine ⟨trivial, ?_⟩; gi_at_call 211; refine (back_in _ _ _ _ _).mono ?_; rintro e w' ⟨rfl, rfl⟩)
 obtain ⟨w0, hw0⟩ : ∃ w0, (W.drewN nq).alloc (.cells #[.slice (some ⟨g, 0, none⟩) (keys C.L).length cap] 175) = w0 := ⟨_, rfl⟩
 have hbw : Below w.heap.size w w0 := by rw [<- hw0]; exact (HBL.out.trans (below_drewN (Below.refl _ _) nq)).alloc (by show w.heap.size <= W.heap.size; have := HZ.out; omega) _
 have hbW : Below W.heap.size W w0 := by rw [<- hw0]; exact (below_drewN (Below.refl _ _) nq).alloc (Nat.le_refl _) _
 have hsz0 : w0.heap.size = w.heap.size + 3 := by rw [<- hw0]; have := HZ.out; simp; exact this
 have hbs : w0.cell? ⟨w.heap.size + 2, 0, none⟩ = some (.slice (some ⟨g, 0, none⟩) (keys C.L).length cap) := by
  have e : (W.drewN nq).heap.size = w.heap.size + 2 := HZ.out
  rw [<- hw0, <- e, World.cell?_alloc_mark]; rfl
 have m0 : w0.cell? ⟨w.heap.size, 0, none⟩ = some (.pointer (some ⟨p, 0, none⟩)) := (hbW.cell (p := ⟨w.heap.size, 0, none⟩) (by show w.heap.size < _; have := HZ.out; omega)).trans l0
 have m1 : w0.cell? ⟨w.heap.size + 1, 0, none⟩ = some (.int .i64 0) := (hbW.cell (p := ⟨w.heap.size + 1, 0, none⟩) (by show w.heap.size + 1 < _; have := HZ.out; omega)).trans l1
 have mf : w0.frozen? ⟨w.heap.size + 1, 0, none⟩ = false := (hbW.frozen (p := ⟨w.heap.size + 1, 0, none⟩) (by show w.heap.size + 1 < _; have := HZ.out; omega)).trans f1
 have HB0 := Lib.hid (HB.out.below hbw)
 have HS0 : Hid (∀ k, S k -> k < w0.heap.size) := fun k hk => Nat.lt_of_lt_of_le (HS.out k hk) hbw.size
 have hcells : ∀ j (h : j < (keys C.L).length), w0.cell? ⟨g, j, none⟩ = some (.int .i64 (keys C.L)[j]) := by
  intro j hj
  have := row_cells HB0.out.raw.hr j hj
  rw [Nat.zero_add] at this
  rw [this, List.getD_eq_getElem?_getD, List.getElem?_eq_getElem hj]; rfl
 have eBs : W.heap.size = w.heap.size + 2 := HZ.out
 rw [hw0, eBs]
 have HBW := Lib.hid hbw
 clear hw0 hbW l0 l1 f1 d1 d3 d3' hbw eBs
 refine wpIn_rangeFunc_ownG rfl (by decide) (gf := 225) (lb := #[.pointer (some ⟨w.heap.size + 2, 0, none⟩)]) rfl trivial (enters_of Tryz.func225 (by kernel_rfl) rfl)
  (back_stops (5 - 1) (by decide) (w.heap.size + 2) w0.heap.size g cap (keys C.L) hN0 hN1 (by omega) (by omega) w0 (Nat.le_refl _) hbs hcells) belowK_t (belowK_b (Nat.le_refl _)) (Below.refl _ _) (fun _ => rfl)
  (RoomI C w0) (RoomX S C w0 p bm (w.heap.size + 1) src) (roomI_own C w0) (roomX_own HS0.out (by omega)) ⟨fun y hy => (by cases hy), Below.refl _ _⟩
  (fun x => { tmps := #[.pointer (some ⟨p, 0, none⟩), .pointer (some ⟨w.heap.size, 0, none⟩), .pointer (some ⟨w.heap.size + 1, 0, none⟩), .int .i64 ((x.1 : Nat) : Int), .int .i64 (keys C.L)[x.1], undef, .pointer (some ⟨p, 0, none⟩), .pointer (some ⟨p, 0, none⟩), .pointer (some ⟨p, 3, none⟩), .slice (some ⟨g, 0, none⟩) (keys C.L).length cap, .int .i64 ((keys C.L).length : Int), .pointer (some ⟨p, 0, none⟩), .pointer (some ⟨p, 0, none⟩), .pointer (some ⟨p, 1, none⟩), .int .i64 (C.most : Int), .bool false, .pointer (some ⟨p, 0, none⟩), .pointer (some ⟨p, 0, none⟩), .pointer (some ⟨p, 3, none⟩), .slice (some ⟨g, 0, none⟩) (keys C.L).length cap, .func (.func 225) #[] #[.pointer (some ⟨w.heap.size + 2, 0, none⟩)], .int .i64 ((x.1 : Nat) : Int), .int .i64 (keys C.L)[x.1], undef, undef, undef, undef, undef, undef, undef, undef, undef, undef, undef, undef, undef, undef, undef, undef, undef, undef, undef, undef, undef, undef, undef, undef, undef, undef, undef, undef, undef, undef], defers := [] }) ?assign ?body ?done ?stop
 case assign =>
  intro l x W2 K hK
  gi_wp2
  exact hK
 case body =>
  rintro l pre x W2 ⟨hfree, hB⟩ _
  have hxl : x.1 < C.L.length := by rw [<- keys_len]; exact x.2
  have n0 := (hB.cell (p := ⟨w.heap.size, 0, none⟩) (by show w.heap.size < _; omega)).trans m0
  have n1 := (hB.cell (p := ⟨w.heap.size + 1, 0, none⟩) (by show w.heap.size + 1 < _; omega)).trans m1
  have nf := (hB.frozen (p := ⟨w.heap.size + 1, 0, none⟩) (by show w.heap.size + 1 < _; omega)).trans mf
  have HB2 := Lib.hid (HB0.out.below hB)
  have c2 := HB2.out.raw.c2
  have hkey : (keys C.L)[x.1] = C.L[x.1].key := by simp [keys]
  rw [hkey]
  have HFR : Hid (frK C x = C.L[x.1].free) := rfl
  have hf := fx_of HB.out.ok.nodup hxl
  have HF := Lib.hid hf
  have HI := Lib.hid (HB.out.ok.wf _ (List.getElem_mem hxl))
  have HD := Lib.hid (toD_del HB.out.ok.nodup HB.out.ok.wf hf)
  have HPR := Lib.hid hfree
  have HBw := Lib.hid hB
  clear hfree hB m0 m1 mf hbs hcells hkey hf
  have HXL := Lib.hid hxl
  generalize C.L[x.1] = y at *
  clear hxl
  obtain ⟨i, s, d, m⟩ := y
  simp only at HI HD HF
  cases d
  ·by_cases hm0 : m = 0
   ·subst hm0
    have hbA : Below W2.heap.size W2 (W2.alloc (.cells #[.string s, .bool false, .int .i64 0] 180)) := (Below.refl _ _).alloc (Nat.le_refl _) _
    have hsA := HBw.out.size
    have a0 := (hbA.cell (p := ⟨w.heap.size, 0, none⟩) (by show w.heap.size < _; omega)).trans n0
    have a1 := (hbA.cell (p := ⟨w.heap.size + 1, 0, none⟩) (by show w.heap.size + 1 < _; omega)).trans n1
    have af := (hbA.frozen (p := ⟨w.heap.size + 1, 0, none⟩) (by show w.heap.size + 1 < _; omega)).trans nf
    have a2 := (hbA.cell (p := ⟨p, 2, none⟩) (by show p < _; omega)).trans c2
    have HBA := Lib.hid (HB2.out.below hbA)
    have HbA := Lib.hid hbA
    clear hbA
    gi_wp2_with (first
     | (gi_at_lookup; refine wpListIn_has_yes _ rfl _ _ rfl rfl rfl HB2.out.map HB2.out.ok.nodup HB2.out.ok.wf x.1 _ HF.out ?_)
     | (gi_at_delete; refine wpListIn_del _ ?dg (.tmp 40) (.tmp 41) ?dh ?dm ?dx HBA.out.map HI.out _ HD.out ?_))
    case dg => rfl
    case dh => rfl
    case dm => rfl
    case dx => rfl
    generalize W2.alloc (.cells #[.string s, .bool false, .int .i64 0] 180) = WA at *
    intro w3 hm3 ho3
    have hWA : W2.heap.size <= WA.heap.size := HbA.out.size
    have hbmS := HS.out bm HB.out.sb
    have hgb : ¬ g = bm := fun e => HB2.out.rb (by rw [<- e]; rfl)
    have hgp : ¬ g = p := fun e => HB2.out.raw.rp (by rw [<- e]; rfl)
    have hpb : ¬ p = bm := fun e => HB2.out.bp e.symm
    have b0 := (ho3.out.cell (p := ⟨w.heap.size, 0, none⟩) (by show w.heap.size < _; omega) (by show ¬ w.heap.size = bm; omega)).trans a0
    have b1 := (ho3.out.cell (p := ⟨w.heap.size + 1, 0, none⟩) (by show w.heap.size + 1 < _; omega) (by show ¬ w.heap.size + 1 = bm; omega)).trans a1
    have bf : w3.frozen? ⟨w.heap.size + 1, 0, none⟩ = false := (World.frozen?_of_block (ho3.out.block (w.heap.size + 1) (by omega) (by omega))).trans af
    have hR3 := HBA.out.raw.kept ho3.out hpb (fun k hk e => hgb (by simp [Value.ownBlock] at hk; omega))
    have b3 := hR3.c3
    have bf3 := hR3.f 3
    have hkk : x.1 < (keys C.L).length := x.2
    have HR3 := Lib.hid hR3; clear hR3
    have hmx : Tryz.prog.follows .mixedOrders = true := by kernel_rfl
    gi_wp2
    refine wpIn_mono (del_region (T := #[.pointer (some ⟨p, 0, none⟩), .pointer (some ⟨w.heap.size, 0, none⟩), .pointer (some ⟨w.heap.size + 1, 0, none⟩), .int .i64 ((x.1 : Nat) : Int), .int .i64 i, .pointer (some ⟨W2.heap.size, 0, none⟩), .pointer (some ⟨p, 0, none⟩), .pointer (some ⟨p, 0, none⟩), .pointer (some ⟨p, 3, none⟩), .slice (some ⟨g, 0, none⟩) (keys C.L).length cap, .int .i64 ((keys C.L).length : Int), .pointer (some ⟨p, 0, none⟩), .pointer (some ⟨p, 0, none⟩), .pointer (some ⟨p, 1, none⟩), .int .i64 (C.most : Int), .bool false, .pointer (some ⟨p, 0, none⟩), .pointer (some ⟨p, 0, none⟩), .pointer (some ⟨p, 3, none⟩), .slice (some ⟨g, 0, none⟩) (keys C.L).length cap, .func (.func 225) #[] #[.pointer (some ⟨w.heap.size + 2, 0, none⟩)], .int .i64 ((x.1 : Nat) : Int), .int .i64 i, .pointer (some ⟨p, 0, none⟩), .pointer (some ⟨p, 0, none⟩), .pointer (some ⟨p, 2, none⟩), .map (some bm), .int .i64 i, .agg #[.string s, .bool false, .int .i64 0], .pointer (some ⟨W2.heap.size, 1, none⟩), .bool false, .bool true, .bool true, .pointer (some ⟨W2.heap.size, 2, none⟩), .int .i64 0, .bool true, .bool true, .pointer (some ⟨p, 0, none⟩), .pointer (some ⟨p, 0, none⟩), .pointer (some ⟨p, 2, none⟩), .map (some bm), .int .i64 i, .pointer (some ⟨p, 0, none⟩), .pointer (some ⟨p, 0, none⟩), .pointer (some ⟨p, 0, none⟩), .pointer (some ⟨p, 3, none⟩), .slice (some ⟨g, 0, none⟩) (keys C.L).length cap, .int .i64 ((x.1 : Nat) : Int), .int .i64 ((x.1 : Nat) : Int), .int .i64 (((x.1 : Nat) : Int) + 1), .slice (some ⟨g, 0, none⟩) ((keys C.L).length - 1) cap, .pointer (some ⟨p, 0, none⟩), .pointer (some ⟨p, 3, none⟩)]) (base := List.range 42) (O := keys C.L) (x := x.1) (g := g) (cap := cap) (hb := w.heap.size) (p := p) hmx (by kernel_rfl) (by kernel_rfl) (by kernel_rfl) (by kernel_rfl) (by kernel_rfl) (by kernel_rfl) (by kernel_rfl) (by kernel_rfl) (by kernel_rfl) (by kernel_rfl) (by kernel_rfl) (by kernel_rfl) (by kernel_rfl) (by kernel_rfl) (by decide) (by decide)
      rfl rfl rfl rfl rfl rfl rfl rfl rfl rfl rfl rfl rfl rfl rfl (fun d hd => frame_eq (k := 42) (by rfl) d (List.mem_range.1 hd)) rfl (fun d hd => List.mem_range.2 hd) hkk hN1 HR3.out.hr (by omega) (fun e => hgp e.symm) (by have := ho3.out.size; omega) (by have := ho3.out.size; omega) b0 b3 bf3) ?q9
    case q9 =>
     rintro e a' w5 ⟨rfl, rfl, w4, hM, rfl⟩
     have hE := Lib.hid (room_end (rb := w.heap.size + 1) (C := C) HBA.out hm3.out ho3.out hM x.2 (by omega) (by omega) (by omega) (ok_erase HB.out.ok x.1))
     have hpw : p ≠ w.heap.size + 1 := by omega
     have g1 : (w4.setCell ⟨p, 3, none⟩ (.slice (some ⟨g, 0, none⟩) ((keys C.L).length - 1) cap)).cell? ⟨w.heap.size + 1, 0, none⟩ = some (.int .i64 0) := by
      rw [World.cell?_setCell_other _ _ _ _ (by simp)]
      exact (hM.only.cell (p := ⟨w.heap.size + 1, 0, none⟩) (by show w.heap.size + 1 < _; have := ho3.out.size; omega) (by show ¬ w.heap.size + 1 = g; omega)).trans b1
     have g2 : (w4.setCell ⟨p, 3, none⟩ (.slice (some ⟨g, 0, none⟩) ((keys C.L).length - 1) cap)).frozen? ⟨w.heap.size + 1, 0, none⟩ = false := by
      rw [World.frozen?_setCell]
      exact (World.frozen?_of_block (hM.only.block (w.heap.size + 1) (by have := ho3.out.size; omega) (by omega))).trans bf
     have HM := Lib.hid hM
     clear hM b0 b1 b3 bf bf3 a0 a1 af a2 n0 n1 nf c2
     generalize hw5 : w4.setCell ⟨p, 3, none⟩ (.slice (some ⟨g, 0, none⟩) ((keys C.L).length - 1) cap) = w5 at *
     clear hw5
     gi_wp2
     have hW6 : Only (fun j => S j \/ j = w.heap.size + 1) W2 (w5.setCell ⟨w.heap.size + 1, 0, none⟩ (.int .i64 0)) := (Only.of_below _ HbA.out (Nat.le_refl _)).trans hE.out.2 (fun _ _ h => h)
     refine ⟨keepsFrom_only hW6 (fun k hk => ?_), rfl, pre, x, rfl, HPR.out, by rw [HFR.out]; rfl, ⟨_, hE.out.1⟩, World.cell?_setCell_same' _ _ _ (by rw [g1]; rfl), (Only.of_below _ HBw.out (Nat.le_refl _)).trans hW6 (fun _ _ h => h)⟩
     rcases hk with hk | hk
     ·exact HS0.out k hk
     ·omega
   ·have hm1 : ((m : Int) == 0) = false := beq_eq_false_iff_ne.2 (by omega)
    gi_wp2_with (first
     | (gi_at_lookup; refine wpListIn_has_yes _ rfl _ _ rfl rfl rfl HB2.out.map HB2.out.ok.nodup HB2.out.ok.wf x.1 _ HF.out ?_))
    refine ⟨(KeepsOthers.alloc _ _).from _, (Below.refl _ _).alloc HBw.out.size _, ⟨fun z hz => ?_, HBw.out.alloc HBw.out.size _⟩⟩
    rcases List.mem_append.1 hz with hz | hz
    ·exact HPR.out z hz
    ·obtain rfl : z = x := by simpa using hz
     rw [HFR.out]; simp [Kp.free, hm0]
  ·gi_wp2_with (first
    | (gi_at_lookup; refine wpListIn_has_yes _ rfl _ _ rfl rfl rfl HB2.out.map HB2.out.ok.nodup HB2.out.ok.wf x.1 _ HF.out ?_))
   refine ⟨(KeepsOthers.alloc _ _).from _, (Below.refl _ _).alloc HBw.out.size _, ⟨fun z hz => ?_, HBw.out.alloc HBw.out.size _⟩⟩
   rcases List.mem_append.1 hz with hz | hz
   ·exact HPR.out z hz
   ·obtain rfl : z = x := by simpa using hz
    rw [HFR.out]; simp [Kp.free]
 case done =>
  rintro D ys W2 hD rfl ⟨hfree, hB⟩ hK
  have r1 : W2.cell? ⟨w.heap.size + 1, 0, none⟩ = some (.int .i64 0) := (hB.cell (p := ⟨w.heap.size + 1, 0, none⟩) (by show w.heap.size + 1 < _; omega)).trans m1
  have rf : W2.frozen? ⟨w.heap.size + 1, 0, none⟩ = false := (hB.frozen (p := ⟨w.heap.size + 1, 0, none⟩) (by show w.heap.size + 1 < _; omega)).trans mf
  have HF := Lib.hid hfree
  have HBB : Hid (Below w.heap.size w W2) := HBW.out.trans (hB.mono (by omega))
  clear hfree hB m0 m1 mf hbs hcells
  gi_wp2
  have hK' := (KeepsOthers.setCell W2 ⟨w.heap.size + 1, 0, none⟩ (.int .i64 14)).same D _ hK rfl
  refine ⟨by simp, .inl ⟨_, _, rfl, run_takeDeferred hK', ?_⟩⟩
  have hc5 := cell_kept (World.cell?_setCell_same' W2 ⟨w.heap.size + 1, 0, none⟩ (.int .i64 14) (by rw [r1]; rfl)) (grownBy_putObj' _ D (.deferred none)) (fun r e => by cases e; exact ⟨_, hK', rfl⟩)
  have hfin : Below w.heap.size w ((W2.setCell ⟨w.heap.size + 1, 0, none⟩ (.int .i64 14)).putObj D (.deferred none)) :=
   (HBB.out.setCell (p := ⟨w.heap.size + 1, 0, none⟩) (by show w.heap.size <= w.heap.size + 1; omega) _).trans (belowK_b (w := w) (Nat.le_refl _) _ D _ _ (by omega) hK' rfl rfl)
  refine ⟨.int .i64 14, ?_, Only.of_below _ hfin (Nat.le_refl _), .inr ⟨?_, rfl, HB.out.below hfin⟩⟩
  ·simp [results, Tryz.f190, go_sem, hc5]
  ·exact lf_is_none fun j hj => HF.out ⟨j, by rw [keys_len]; exact hj⟩ (by unfold bw; simp)
 case stop =>
  rintro D c pre W2 hD ⟨k, hk, rfl⟩ ⟨rfl, ini, last, e1, e2, e3, ⟨ov', hC⟩, hcr, ho⟩ hK
  have HE := Lib.hid e1; have HE2 := Lib.hid e2; have HE3 := Lib.hid e3; have HC := Lib.hid hC; have HO := Lib.hid ho
  clear e1 e2 e3 hC ho m0 m1 mf hbs hcells
  gi_wp2
  refine ⟨by simp, .inl ⟨_, _, rfl, run_takeDeferred hK, ?_⟩⟩
  have hc5 := cell_kept hcr (grownBy_putObj' _ D (.deferred none)) (fun r e => by cases e; exact ⟨_, hK, rfl⟩)
  have hput : Only (fun k => k = D) W2 (W2.putObj D (.deferred none)) := (grown_only (grownBy_putObj' W2 D (.deferred none))).mono (fun k _ e => by simpa using e.symm)
  have hlast : last.1 < C.L.length := by rw [<- keys_len]; exact last.2
  refine ⟨.int .i64 0, ?_, ?_, .inl ⟨last.1, ov', ?_, rfl, HC.out.kept hput (fun k hk e => by have := HS0.out k hk; omega)⟩⟩
  ·simp [results, Tryz.f190, go_sem, hc5]
  ·have h1 : Only S w w0 := Only.of_below _ HBW.out (Nat.le_refl _)
   refine (h1.trans HO.out (fun i hi hs => ?_)).trans hput (fun i hi e => by omega)
   rcases hs with hs | hs
   ·exact hs
   ·omega
  ·refine lf_is hlast HE3.out (fun j hj hlj => ?_)
   exact HE2.out ⟨j, by rw [keys_len]; exact hj⟩ (bw_last hk HE.out _ hlj)
theorem room_any (h : CB S w p bm src ov C) :
  Calls Tryz.prog 190 #[.pointer (some ⟨p, 0, none⟩)] w fun e w' => Only S w w' /\ ((∃ M ov', room C.L C.most = some M /\ e = .returned (.int .i64 0) /\ CB S w' p bm src ov' { C with L := M }) \/ (room C.L C.most = none /\ e = .returned (.int .i64 14) /\ CB S w' p bm src ov C)) := by
 by_cases hl : C.L.length < C.most
 ·refine (room_has h hl).mono fun e w' ⟨he, hb⟩ => ⟨Only.of_below _ hb (Nat.le_refl _), .inl ⟨C.L, ov, by unfold room; rw [if_pos hl], he, h.below hb⟩⟩
 ·refine (room_makes h hl).mono fun e w' ⟨ho, h'⟩ => ⟨ho, ?_⟩
  rcases h' with ⟨k, ov', h1, h2, h3⟩ | ⟨h1, h2, h3⟩
  ·exact .inl ⟨_, ov', by unfold room; rw [if_neg hl, h1]; rfl, h2, h3⟩
  ·exact .inr ⟨by unfold room; rw [if_neg hl, h1]; rfl, h2, h3⟩
end
end Go.Proofs.YthambopnmhkeeaaGreat.Ca
