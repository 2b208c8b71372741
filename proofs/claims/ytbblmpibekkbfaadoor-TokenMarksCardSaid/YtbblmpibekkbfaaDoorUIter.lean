/- Runes: the contract of the program's iterator. -/
import Derived.Test.YtbblmpibekkbfaaDoorURunP
import Derived.RangeFuncWrites
import Derived.RangeFuncFrom
import Derived.RangeFuncNested
import Derived.RangeFuncBound
import Derived.RangeFuncCalls
import Derived.RangeFuncLeaves
import Derived.RangeFuncBox
import Derived.Shelf.Abstract
import Derived.Shelf.RegionOpen
import Derived.OwnWalkIn
import Derived.TacticsInMore
import Derived.LoopNIn
import Derived.LoopIn
namespace Go.Proofs.YtbblmpibekkbfaaDoor
open Go.RowKit Go.Shelf
attribute [local go_sem] Oper.semAt_some

/-- What stands at a place. -/
def rn (L : List UInt8) (p : Nat) : Int × Nat := runeL (L.drop p)
abbrev uEnc (s : ByteArray) : Fin s.size → Array Value := fun x => #[.int .i64 ((x.1 : Nat) : Int), .int .i64 (rn s.data.toList x.1).1]
/-- Places, one behind the other from p on. -/
def chainL (L : List UInt8) {n : Nat} : Nat → List (Fin n) → Prop
  | _, [] => True
  | p, x :: T => x.1 = p ∧ chainL L (p + (rn L x.1).2) T
def endL (L : List UInt8) {n : Nat} : Nat → List (Fin n) → Nat
  | p, [] => p
  | p, x :: T => endL L (p + (rn L x.1).2) T
theorem chain_snoc (L : List UInt8) {n : Nat} (x : Fin n) : ∀ (p : Nat) (T : List (Fin n)), chainL L p (T ++ [x]) ↔ chainL L p T ∧ x.1 = endL L p T
  | p, [] => by
    show (x.1 = p ∧ True) ↔ (True ∧ x.1 = p)
    constructor
    · exact fun h => ⟨trivial, h.1⟩
    · exact fun h => ⟨h.2, trivial⟩
  | p, y :: T => by
    have := chain_snoc L x (p + (rn L y.1).2) T
    show (y.1 = p ∧ chainL L _ (T ++ [x])) ↔ ((y.1 = p ∧ chainL L _ T) ∧ x.1 = endL L _ T)
    rw [this]
    exact ⟨fun h => ⟨⟨h.1, h.2.1⟩, h.2.2⟩, fun h => ⟨h.1.1, h.1.2, h.2⟩⟩
theorem end_snoc (L : List UInt8) {n : Nat} (x : Fin n) : ∀ (p : Nat) (T : List (Fin n)), endL L p (T ++ [x]) = endL L p T + (rn L x.1).2
  | p, [] => rfl
  | p, y :: T => end_snoc L x (p + (rn L y.1).2) T
theorem rn_step {L : List UInt8} {p : Nat} (h : p < L.length) : 1 ≤ (rn L p).2 ∧ p + (rn L p).2 ≤ L.length := by
  have hne : L.drop p ≠ [] := fun e => by
    have := congrArg List.length e
    rw [List.length_drop] at this
    simp at this
    omega
  have := rune_pos hne
  rw [List.length_drop] at this
  unfold rn
  omega
theorem abides_below {β : Type} {B : Nat} {J : β → World → Prop} (h : AbidesFrom B J) {s : β} {W W' : World} (hj : J s W) (hb : Below W.heap.size W W') : J s W' :=
  h s W W' none hj ⟨hb.os, hb.tape, hb.output, hb.size, fun k hk _ => hb.block k hk⟩ (fun r e => by cases e)

/-- What a round keeps: what lay below n, and the box of the text that is gone over. -/
def KpU (n₀ Bs : Nat) (s : ByteArray) (A B : World) : Prop := Below n₀ A B ∧ (A.cell? ⟨Bs, 0, none⟩ = some (.string s) → B.cell? ⟨Bs, 0, none⟩ = some (.string s))
theorem kpu_t {n₀ Bs : Nat} {s : ByteArray} {A B C : World} (h : KpU n₀ Bs s A B) (k : KpU n₀ Bs s B C) : KpU n₀ Bs s A C := ⟨h.1.trans k.1, fun e => k.2 (h.2 e)⟩
theorem kpu_b {n₀ Bs : Nat} {s : ByteArray} {w : World} (hn : n₀ ≤ w.heap.size) (W : World) (l : Nat) (o o' : Obj) (hl : w.heap.size ≤ l) (h : W.heap[l]? = some o) (h1 : o.isCells = false) (h2 : o.isWalk = false) : KpU n₀ Bs s W (W.putObj l o') :=
  ⟨belowK_b hn W l o o' hl h h1 h2, fun e => cell_kept e (grownBy_putObj' W l o') (fun r hr => by cases hr; exact ⟨o, h, h1⟩)⟩
theorem kpu_of {n₀ Bs : Nat} {s : ByteArray} {A B : World} (h : Below n₀ A B) (hb : Below A.heap.size A B) : KpU n₀ Bs s A B := ⟨h, fun e => (hb.cell (ulive e)).trans e⟩

set_option maxRecDepth 100000 in
theorem runes_any (s : ByteArray) (w : World) : Calls Tryd.prog 25 #[.string s] w fun e w' => e = .returned (.func (.func 38) #[] #[.pointer (some ⟨w.heap.size, 0, none⟩)]) ∧ w' = w.alloc (.cells #[.string s] 9) := by
  go_enter Tryd.func25, Tryd.ntmps25
  go_wp2
  go_ret
  exact ⟨rfl, rfl⟩
set_option maxRecDepth 100000 in
set_option maxHeartbeats 2000000 in
theorem runes1_in (n : Nat) (hn : 1 ≤ n) (l Bs : Nat) (s : ByteArray) (hs : s.size ≤ 100000) (w : World) (hT : Tabs w) (J Jx : List (Fin s.size) → World → Prop)
    (W : World) (hW : Below w.heap.size w W) (hBs : W.cell? ⟨Bs, 0, none⟩ = some (.string s)) (hAb : AbidesFrom W.heap.size J)
    (hY : ∀ pre x W, J pre W → pre.length < s.size → YieldAt Fence.wide (n - 1) Tryd.prog l (uEnc s x) W fun e W' =>
      (e = .returned (.bool true) ∧ J (pre ++ [x]) W' ∧ KpU w.heap.size Bs s W W') ∨ (e = .returned (.bool false) ∧ Jx (pre ++ [x]) W'))
    (hj0 : J [] W) :
    CallsIn Fence.wide n Tryd.prog 38 #[.func (.yield l) #[] #[], .pointer (some ⟨Bs, 0, none⟩)] W fun e W' => (∃ v, e = .returned v) ∧
      ((∃ ys, (chainL s.data.toList 0 ys ∧ endL s.data.toList 0 ys = s.size) ∧ J ys W') ∨ (∃ pre, chainL s.data.toList 0 pre ∧ Jx pre W')) := by
  refine callsIn_of_wp Tryd.func38 rfl trivial ?_ rfl
  simp only [Tryd.ntmps38, List.size_toArray, List.length_cons, List.length_nil, Nat.reduceAdd, Nat.reduceSub, Array.replicate_succ, Array.replicate_zero, List.push_toArray, List.append_toArray, List.nil_append, List.cons_append]
  have HY := Lib.hid hY
  have HT := Lib.hid hT
  have HA := Lib.hid hAb
  have HW := Lib.hid hW
  have HBs := Lib.hid hBs
  have hlen := data_len s
  have HP : Hid (∀ p, utxt (s.data.toList.drop p) = s.extract p s.size) := fun p => (utxt_drop s p).symm
  clear hY hAb hT hW hBs
  gi_wp2
  gi_loopw [3] (fun i wr => ∃ (p : Nat) (pre : List (Fin s.size)), p ≤ s.size ∧ i = .int .i64 (p : Int) ∧ Hid (chainL s.data.toList 0 pre ∧ endL s.data.toList 0 pre = p ∧ pre.length ≤ p) ∧ Hid (J pre wr) ∧ Hid (Below w.heap.size w wr) ∧ wr.cell? ⟨Bs, 0, none⟩ = some (.string s))
    (fun i _ => s.size - (intOf i).toNat)
  case atStart => exact ⟨0, [], Nat.zero_le _, rfl, ⟨trivial, rfl, Nat.le_refl _⟩, hj0, HW.out, HBs.out⟩
  case round =>
    obtain ⟨p, pre, hp, rfl, HC, HJ, HB, hcb⟩ := hrel
    have HCB := Lib.hid hcb
    by_cases hlt : p < s.size
    · have CR : Hid (∀ W, Tabs W → Calls Tryd.prog 39 #[.string (s.extract p s.size)] W fun e w' => e = .returned (.tuple #[.int .i64 (rn s.data.toList p).1, .int .i64 ((rn s.data.toList p).2 : Nat)]) ∧ Below W.heap.size W w') := fun W hT => by
        have := prune_any (s.extract p s.size) W hT (by rw [← HP.out p, utxt_size, List.length_drop]; omega)
        rw [← HP.out p, utxt_data] at this
        rw [← HP.out p]
        exact this
      have hst := rn_step (L := s.data.toList) (p := p) (by omega)
      rw [hlen] at hst
      have HTr := Lib.hid (HT.out.below HB.out)
      have i0 : (0 : Int) ≤ (p : Int) := by omega
      have i1 : (p : Int) ≤ (s.size : Int) := by omega
      have i2 : (p : Int) < (s.size : Int) := by omega
      obtain ⟨xr, hxr⟩ : ∃ xr : Fin s.size, xr.1 = p := ⟨⟨p, hlt⟩, rfl⟩
      have HX : Hid (xr.1 = p) := hxr
      have HN : Hid (uEnc s xr = #[.int .i64 (p : Int), .int .i64 (rn s.data.toList p).1]) := by show _ = _; unfold uEnc; rw [hxr]
      have HC2 : Hid (chainL s.data.toList 0 (pre ++ [xr]) ∧ endL s.data.toList 0 (pre ++ [xr]) = p + (rn s.data.toList p).2 ∧ (pre ++ [xr]).length ≤ p + (rn s.data.toList p).2) := by
        refine ⟨(chain_snoc _ _ _ _).2 ⟨HC.out.1, by rw [hxr]; exact HC.out.2.1.symm⟩, by rw [end_snoc, hxr, HC.out.2.1], ?_⟩
        have := HC.out.2.2
        rw [List.length_append, List.length_singleton]
        omega
      have HL : Hid (pre.length < s.size) := by
        have := HC.out.2.2
        show _ < _
        omega
      clear hxr
      obtain ⟨X, hX⟩ : ∃ X, s.extract p s.size = X := ⟨_, rfl⟩
      rw [hX] at CR
      generalize rn s.data.toList p = R at *
      obtain ⟨r, k⟩ := R
      dsimp only at *
      gi_wp2_with (refine ⟨trivial, ?_⟩; gi_at_call 39; refine (callsIn_wide.2 (CR.out _ HTr.out)).mono ?_; rintro e w2 ⟨rfl, hb2⟩)
      have HB2 : Hid (Below w.heap.size w w2) := HB.out.trans (hb2.mono HB.out.size)
      have HJ2 : Hid (J pre w2) := abides_below (HA.out) HJ.out hb2
      have HCB2 : Hid (w2.cell? ⟨Bs, 0, none⟩ = some (.string s)) := (hb2.cell (ulive HCB.out)).trans HCB.out
      clear hb2 hcb
      have hy0 := HY.out pre xr w2 HJ2.out HL.out
      rw [HN.out] at hy0
      obtain ⟨fn, tmps, assign, body, hy, hR⟩ := hy0
      have HR := Lib.hid hR
      clear hR
      rw [hy]
      gi_wp2
      refine HR.out.mono ?_
      rintro e W3 (⟨rfl, hJ3, hk3⟩ | ⟨rfl, hJx3⟩)
      · have HJ3 := Lib.hid hJ3
        have HB3 : Hid (Below w.heap.size w W3) := HB2.out.trans hk3.1
        have HCB3 := Lib.hid (hk3.2 HCB2.out)
        clear hJ3 hk3
        gi_wp2
        go_roundw
        case rel => exact ⟨p + k, pre ++ [xr], by omega, by first | rfl | go_num, HC2.out, HJ3.out, HB3.out, HCB3.out⟩
        case measure => simp [intOf]; omega
      · have HJ3 := Lib.hid hJx3
        clear hJx3
        gi_wp2
        refine bodyPost_ret (results_none rfl _ _ _) rfl ?_
        exact ⟨⟨_, rfl⟩, .inr ⟨_, HC2.out.1, HJ3.out⟩⟩
    · have hps : p = s.size := by omega
      have HF : Hid (chainL s.data.toList 0 pre ∧ endL s.data.toList 0 pre = s.size) := ⟨HC.out.1, HC.out.2.1.trans hps⟩
      have i2 : ¬ (p : Int) < (s.size : Int) := by omega
      clear hps
      gi_wp2
      go_end0
      exact ⟨⟨_, rfl⟩, .inl ⟨_, HF.out, HJ.out⟩⟩
theorem runes_stops (n : Nat) (hn : 1 ≤ n) (Bs : Nat) (s : ByteArray) (hs : s.size ≤ 100000) (wb w : World) (hT : Tabs wb) (hb : Below wb.heap.size wb w) (hBs : w.cell? ⟨Bs, 0, none⟩ = some (.string s)) :
    SeqStopsK Fence.wide n Tryd.prog 38 #[.pointer (some ⟨Bs, 0, none⟩)] (uEnc s) (KpU wb.heap.size Bs s) (fun ys => chainL s.data.toList 0 ys ∧ endL s.data.toList 0 ys = s.size) (fun pre => chainL s.data.toList 0 pre) s.size w := fun l J Jx W hW hA _ hY hj0 =>
  runes1_in n hn l Bs s hs wb hT J Jx W (hb.trans (hW.mono hb.size)) ((hW.cell (ulive hBs)).trans hBs) hA hY hj0

/-- The pieces at places that stand one behind the other are the pieces that the text is cut into. -/
def pcL (L : List UInt8) (p : Nat) : Int × List UInt8 := ((rn L p).1, (L.drop p).take (rn L p).2)
theorem cut_at {L : List UInt8} {p : Nat} (h : p < L.length) : cut (L.drop p) = pcL L p :: cut (L.drop (p + (rn L p).2)) := by
  have hne : L.drop p ≠ [] := fun e => by
    have := congrArg List.length e
    rw [List.length_drop] at this
    simp at this
    omega
  rw [cut_cons hne, List.drop_drop]
  rfl
theorem chain_cut (L : List UInt8) {n : Nat} (hn : n = L.length) : ∀ (p : Nat) (T : List (Fin n)), chainL L p T → cut (L.drop p) = T.map (fun x => pcL L x.1) ++ cut (L.drop (endL L p T))
  | _, [], _ => rfl
  | p, x :: T, h => by
    obtain ⟨h1, h2⟩ := h
    subst h1
    have := x.2
    rw [cut_at (by omega), chain_cut L hn _ T h2]
    rfl
theorem chain_all (s : ByteArray) {T : List (Fin s.size)} (h : chainL s.data.toList 0 T) (he : endL s.data.toList 0 T = s.size) : cut s.data.toList = T.map fun x => pcL s.data.toList x.1 := by
  have := chain_cut s.data.toList (data_len s).symm 0 T h
  rw [List.drop_zero, he, List.drop_of_length_le (by rw [data_len s]; exact Nat.le_refl _), cut_nil, List.append_nil] at this
  exact this
end Go.Proofs.YtbblmpibekkbfaaDoor
