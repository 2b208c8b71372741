/- slices.Backward over a row of numbers: the contract of its iterator; laws on a cache's map inside a round. -/
import Derived.Test.YteeoglfgilabaaaZCBase
import Derived.RangeFuncWrites
import Derived.RangeFuncBox
import Derived.RangeFuncLeaves
import Derived.RangeFuncCalls
import Derived.Shelf.Abstract
import Derived.Shelf.RegionOpen
import Derived.OwnWalkIn
import Derived.TacticsInMore
import Derived.LoopNIn
import Derived.LoopIn
import Derived.Maps.OwnIn

namespace Go.Proofs.Yteeoglfgilabaaa
open Go.RowKit Go.Shelf
attribute [local go_sem] Oper.semAt_some

/-- The places from the end on. -/
def bw (n : Nat) : List (Fin n) := (List.finRange n).reverse
theorem bw_length (n : Nat) : (bw n).length = n := by simp [bw]
theorem bw_get (n k : Nat) (h : k < n) : (bw n)[k]'(by rw [bw_length]; exact h) = ⟨n - 1 - k, by omega⟩ := by
  unfold bw
  rw [List.getElem_reverse]
  simp
theorem bw_take (n k : Nat) (h : k < n) : (bw n).take (k + 1) = (bw n).take k ++ [⟨n - 1 - k, by omega⟩] := by
  rw [List.take_succ_eq_append_getElem (by rw [bw_length]; exact h), bw_get n k h]
abbrev bEnc (O : List Int) : Fin O.length → Array Value := fun x => #[.int .i64 ((x.1 : Nat) : Int), .int .i64 O[x.1]]

set_option maxRecDepth 100000 in
set_option maxHeartbeats 2000000 in
theorem back1_in (n : Nat) (hn : 1 ≤ n) (l Bs n₀ g cap : Nat) (O : List Int) (h0 : 0 < O.length) (hlen : O.length ≤ 5000) (hb : g < n₀) (J Jx : List (Fin O.length) → World → Prop)
    (hY : ∀ pre x W, J pre W → pre.length < O.length → YieldAt Fence.wide (n - 1) Try.prog l (bEnc O x) W fun e W' =>
      (e = .returned (.bool true) ∧ J (pre ++ [x]) W' ∧ Below n₀ W W') ∨ (e = .returned (.bool false) ∧ Jx (pre ++ [x]) W'))
    (W : World) (hBn : Bs < n₀) (hBs : W.cell? ⟨Bs, 0, none⟩ = some (.slice (some ⟨g, 0, none⟩) O.length cap)) (hc : ∀ j (h : j < O.length), W.cell? ⟨g, j, none⟩ = some (.int .i64 O[j])) (hj0 : J [] W) :
    CallsIn Fence.wide n Try.prog 73 #[.func (.yield l) #[] #[], .pointer (some ⟨Bs, 0, none⟩)] W fun e W' => (∃ v, e = .returned v) ∧
      ((∃ ys, ys = bw O.length ∧ J ys W') ∨ (∃ pre, (∃ k, k ≤ O.length ∧ pre = (bw O.length).take k) ∧ Jx pre W')) := by
  refine callsIn_of_wp Try.func73 rfl trivial ?_ rfl
  simp only [Try.ntmps73, List.size_toArray, List.length_cons, List.length_nil, Nat.reduceAdd, Nat.reduceSub, Array.replicate_succ, Array.replicate_zero, List.push_toArray, List.append_toArray, List.nil_append, List.cons_append]
  have HC := Lib.hid hc
  have HY := Lib.hid hY
  have HT := Lib.hid (bw_take O.length)
  clear hc hY
  gi_wp2
  gi_loopw [3] (fun i wr => ∃ r : Nat, r ≤ O.length ∧ i = .int .i64 ((r : Int) - 1) ∧ Hid (J ((bw O.length).take (O.length - r)) wr) ∧ Hid (Below n₀ W wr))
    (fun i _ => (intOf i + 1).toNat)
  case atStart => exact ⟨O.length, Nat.le_refl _, rfl, (show J _ _ by rw [Nat.sub_self]; exact hj0), (show Below _ _ _ from Below.refl _ _)⟩
  case round =>
    obtain ⟨r, hr, rfl, HJ, HB⟩ := hrel
    cases r with
    | zero =>
      gi_wp2
      go_end0
      exact ⟨⟨_, rfl⟩, .inl ⟨_, rfl, by have := HJ.out; rwa [Nat.sub_zero, List.take_of_length_le (by rw [bw_length]; exact Nat.le_refl _)] at this⟩⟩
    | succ r =>
      have hrl : r < O.length := hr
      have er : ((r + 1 : Nat) : Int) - 1 = (r : Int) := by omega
      rw [er]
      have hr0 : (0 : Int) ≤ (r : Int) := by omega
      have hrz : (r : Int) < (O.length : Int) := by omega
      have hx := HY.out ((bw O.length).take (O.length - (r + 1))) ⟨r, hrl⟩ wr HJ.out (by rw [List.length_take, bw_length]; omega)
      have hcx : wr.cell? ⟨g, r, none⟩ = some (.int .i64 O[r]) := (HB.out.cell (p := ⟨g, r, none⟩) hb).trans (HC.out r hrl)
      have hcb : wr.cell? ⟨Bs, 0, none⟩ = some (.slice (some ⟨g, 0, none⟩) O.length cap) := (HB.out.cell (p := ⟨Bs, 0, none⟩) hBn).trans hBs
      obtain ⟨fn, tmps, assign, body, hy, hR⟩ := hx
      dsimp only [bEnc] at hy
      have HR := Lib.hid hR
      clear hR
      have HTk : Hid ((bw O.length).take (O.length - (r + 1)) ++ [⟨r, hrl⟩] = (bw O.length).take (O.length - r)) := by
        have := HT.out (O.length - (r + 1)) (by omega)
        rw [show O.length - r = O.length - (r + 1) + 1 by omega]
        show _ = _
        rw [this]
        congr 2
        exact Fin.ext (by simp; omega)
      generalize O[r] = xv at *
      gi_wp2
      refine HR.out.mono ?_
      rintro e W3 (⟨rfl, hJ3, hk3⟩ | ⟨rfl, hJx3⟩)
      · have HJ3 : Hid (J ((bw O.length).take (O.length - r)) W3) := by show J _ _; rw [← HTk.out]; exact hJ3
        have HB3 : Hid (Below n₀ W W3) := HB.out.trans hk3
        clear hJ3 hk3
        gi_wp2
        go_roundw
        case rel => exact ⟨r, by omega, rfl, HJ3, HB3⟩
        case measure => simp [intOf]
      · have HJ3 : Hid (Jx ((bw O.length).take (O.length - r)) W3) := by show Jx _ _; rw [← HTk.out]; exact hJx3
        clear hJx3
        gi_wp2
        refine bodyPost_ret (results_none rfl _ _ _) rfl ?_
        exact ⟨⟨_, rfl⟩, .inr ⟨_, ⟨O.length - r, by omega, rfl⟩, HJ3.out⟩⟩
end Go.Proofs.Yteeoglfgilabaaa
