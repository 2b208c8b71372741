/- Rows of writes of one's own; a slice that reads as writes; slices.SortFunc over such a row. -/
import Derived.Test.YthambopnmhkeeaaGreatZFBase
import Derived.Test.YthambopnmhkeeaaGreatZCMath
import Derived.Test.YthambopnmhkeeaaGreatZCBase
import Derived.Shelf.SlSortCmp.WholeK
import Derived.Shelf.Lay
import Derived.Ground.SlsfProg
import Derived.Test.YthambopnmhkeeaaGreatZShelf2
import Derived.Test.YthambopnmhkeeaaGreatZCMap

namespace Go.Proofs.YthambopnmhkeeaaGreat.Ca
open Go.RowKit
abbrev Wr := Int × ByteArray
abbrev encW (x : Wr) : List Value := [.int .i64 x.1, .string x.2]
def flatI : List Wr -> List Value
 | [] => []
 | x :: r => .int .i64 x.1 :: .string x.2 :: flatI r
theorem flatI_length (l : List Wr) : (flatI l).length = l.length * 2 := by
 induction l with
 | nil => rfl
 | cons x r ih => simp [flatI, ih]; omega
theorem flatI_append (l m : List Wr) : flatI (l ++ m) = flatI l ++ flatI m := by
 induction l with
 | nil => rfl
 | cons x r ih => simp [flatI, ih]
theorem flatI_fst (l : List Wr) (i : Nat) (h : i < l.length) : (flatI l)[i * 2]? = some (.int .i64 (l[i]).1) := by
 induction l generalizing i with
 | nil => cases h
 | cons x r ih =>
  cases i with
  | zero => rfl
  | succ j =>
   have e : (j + 1) * 2 = j * 2 + 1 + 1 := by omega
   rw [e]; simpa [flatI] using ih j (by simpa using h)
theorem flatI_snd (l : List Wr) (i : Nat) (h : i < l.length) : (flatI l)[i * 2 + 1]? = some (.string (l[i]).2) := by
 induction l generalizing i with
 | nil => cases h
 | cons x r ih =>
  cases i with
  | zero => rfl
  | succ j =>
   have e : (j + 1) * 2 + 1 = j * 2 + 1 + 1 + 1 := by omega
   rw [e]; simpa [flatI] using ih j (by simpa using h)
def OwnW (B : Nat) (w : World) (v : Value) (L : List Wr) : Prop := w.ownsRow B 63 2 v L.length (flatI L)
theorem OwnW.nil (B : Nat) (w : World) : OwnW B w (.slice none 0 0) [] := World.ownsRow_nil _ _ _ _
theorem OwnW.below {B : Nat} {w w' : World} {v : Value} {L : List Wr} (h : OwnW B w v L) (hb : Below w.heap.size w w') : OwnW B w' v L := by
 refine ⟨h.1, ?_⟩
 rcases h.2 with hn | ⟨g, cap, cur, rfl, hB, hg, rest⟩
 ·exact .inl hn
 ·exact .inr ⟨g, cap, cur, rfl, hB, by rw [hb.block g (Array.getElem?_eq_some_iff.1 hg).1]; exact hg, rest⟩
theorem own_pushW {B : Nat} {w1 : World} {v1 : Value} {M : List Wr} {i : Int} {s : ByteArray} (hown : w1.ownsRow B 63 2 v1 (M.length + 1) (flatI M ++ [.int .i64 i, .string s])) : OwnW B w1 v1 (M ++ [(i, s)]) := by
 unfold OwnW
 rw [List.length_append, flatI_append]
 exact hown
theorem two_cells {w : World} {t : TypeId} {i : Int} {s : ByteArray} {g : Nat} (hg : w.heap.size = g) : ∀ (j : Nat) (u : Value), [Value.int .i64 i, Value.string s][j]? = some u -> (w.alloc (.cells #[.int .i64 i, .string s] t)).cell? ((⟨g, 0, none⟩ : Addr).add j) = some u := by
 subst hg
 intro j u hu
 have hadd : (⟨w.heap.size, 0, none⟩ : Addr).add j = ⟨w.heap.size, j, none⟩ := by unfold Addr.add; split <;> simp_all
 rw [hadd, cell_at (heap_alloc_new ..)]
 simpa using hu
theorem two_one {i : Int} {s : ByteArray} : ∀ u ∈ [Value.int .i64 i, Value.string s], u.oneCell' = true := by
 intro u hu
 simp only [List.mem_cons, List.not_mem_nil, or_false] at hu
 rcases hu with rfl | rfl <;> rfl
def SlW (w : World) (v : Value) (L : List Wr) : Prop := ∃ ao c, v = .slice ao L.length c /\ (L = [] \/ ∃ b, ao = some ⟨b, 0, none⟩ /\ b < w.heap.size /\ ∀ j (h : j < L.length), w.cell? ⟨b, j * 2, none⟩ = some (.int .i64 L[j].1) /\ w.cell? ⟨b, j * 2 + 1, none⟩ = some (.string L[j].2))
theorem SlW.below {w w' : World} {v : Value} {L : List Wr} (h : SlW w v L) (hb : Below w.heap.size w w') : SlW w' v L := by
 obtain ⟨ao, c, hv, h⟩ := h
 refine ⟨ao, c, hv, ?_⟩
 rcases h with h | ⟨b, e, hlt, hc⟩
 ·exact .inl h
 ·exact .inr ⟨b, e, Nat.lt_of_lt_of_le hlt hb.size, fun j hj => ⟨(hb.cell (p := ⟨b, j * 2, none⟩) hlt).trans (hc j hj).1, (hb.cell (p := ⟨b, j * 2 + 1, none⟩) hlt).trans (hc j hj).2⟩⟩
theorem flatK_at (M : List Wr) (j : Nat) (h : j < M.length * 2) : (flatI M)[j]? = some (Sort.flatK encW 2 M.toArray)[j]! := by
 rw [Sort.get_flatK _ _ _ _ (by simpa using h)]
 have h2 : j / 2 < M.length := by omega
 have e0 : M.toArray[j / 2]! = M[j / 2] := by simp [h2]
 rw [e0]
 rcases Nat.mod_two_eq_zero_or_one j with e | e
 ·rw [e]
  have := flatI_fst M (j / 2) h2
  rw [show j / 2 * 2 = j by omega] at this
  rw [this]; rfl
 ·rw [e]
  have := flatI_snd M (j / 2) h2
  rw [show j / 2 * 2 + 1 = j by omega] at this
  rw [this]; rfl
theorem own_holdsW {B : Nat} {w : World} {g c : Nat} {M : List Wr} (h : OwnW B w (.slice (some ⟨g, 0, none⟩) M.length c) M) : Sort.HoldsK encW 2 w g 0 M.toArray := by
 intro j hj
 have hj' : j < M.length * 2 := by simpa using hj
 refine ⟨?_, World.ownsRow.frozenAt h _⟩
 rw [Nat.zero_add, World.ownsRow.cellAt h j (by rw [Nat.mul_comm] at hj'; omega)]
 exact flatK_at M j hj'
end Go.Proofs.YthambopnmhkeeaaGreat.Ca
/- slices.SortFunc over a row of writes, by cmp.Compare of their blocks. -/
set_option maxRecDepth 100000
namespace Go.Proofs.YthambopnmhkeeaaGreat.Ca
open Go.RowKit
set_option maxHeartbeats 1000000 in
theorem closure_any (x y : Wr) (W : World) : Calls Tryz.prog 158 #[.agg #[.int .i64 x.1, .string x.2], .agg #[.int .i64 y.1, .string y.2]] W fun e w' => e = .returned (.int .i64 (Lib.compareInt x.1 y.1)) /\ ∃ q os', w' = Sort.grow (W.drewN q) os' := by
 have hcon := fun W' => Tryz.cmp_Compare_int x.1 y.1 W'
 generalize Lib.compareInt x.1 y.1 = r at hcon ⊢
 obtain ⟨x1, x2⟩ := x
 obtain ⟨y1, y2⟩ := y
 go_enter Tryz.func158, Tryz.ntmps158
 go_wp2_with (go_at_call 159; refine (hcon _).mono ?_; rintro e w' ⟨rfl, rfl⟩)
 go_ret
 exact ⟨rfl, 0, _, by rw [Sort.alloc_eq_grow, Sort.alloc_eq_grow, Sort.grow_grow]; rfl⟩
theorem ltOf_key (x y : Wr) : Go.Proofs.ltOf (fun x y : Wr => Lib.compareInt x.1 y.1) x y = decide (x.1 < y.1) := by
 unfold Go.Proofs.ltOf Lib.compareInt
 by_cases h1 : x.1 < y.1
 ·simp [h1]
 ·by_cases h2 : y.1 < x.1 <;> simp [h1, h2]
theorem swo_key : Sort.SWO (Go.Proofs.ltOf fun x y : Wr => Lib.compareInt x.1 y.1) where
 irrefl x := by rw [ltOf_key]; simp
 trans x y z h1 h2 := by rw [ltOf_key] at *; simp at *; omega
 ntrans x y z h1 h2 := by rw [ltOf_key] at *; simp at *; omega
theorem enters_dirty1 : ∀ args w, (callFunc 158 args).run Tryz.prog w = .ok (.enter 158 args) w := enters_of Tryz.func158 (by kernel_rfl) rfl
theorem isAggW : ∀ w, (isAgg 63).run Tryz.prog w = .ok true w := fun _ => by kernel_rfl
theorem sizeOfW : ∀ w, (Go.sizeOf 63).run Tryz.prog w = .ok 2 w := fun _ => by kernel_rfl
theorem sortK_only {w : World} {g m : Nat} {d : Array Wr} {os : Array Obj} (hg : g < w.heap.size) : Only (fun k => k = g) w (sortWorldK encW 2 w g 0 m d os) := by
 unfold sortWorldK
 refine ⟨rfl, rfl, rfl, by simp [Sort.putRowK, Sort.putRow, Sort.mapBlock, Sort.ahead], fun k hk hne => ?_⟩
 rw [Sort.heap_grow_old _ _ (by simpa [Sort.putRowK, Sort.putRow, Sort.mapBlock, Sort.ahead] using hk)]
 show ((Sort.ahead w m).heap.modify g _)[k]? = w.heap[k]?
 rw [Array.getElem?_modify, if_neg (fun e => hne e.symm)]; rfl
theorem sortK_own {B : Nat} {w : World} {g c : Nat} {M : List Wr} (h : OwnW B w (.slice (some ⟨g, 0, none⟩) M.length c) M) (d : Array Wr) (hd : d.size = M.length) (m : Nat) (os : Array Obj) :
  OwnW B (sortWorldK encW 2 w g 0 m d os) (.slice (some ⟨g, 0, none⟩) M.length c) d.toList := by
 have hdl : d.toList.length = M.length := by simpa using hd
 unfold OwnW
 rw [hdl]
 refine ⟨by rw [flatI_length, hdl], ?_⟩
 rcases h.2 with ⟨hv, _⟩ | ⟨g', cap', cur, hv, hb, hg, hc1, hc2, hc3, hc4⟩
 ·cases hv
 ·obtain ⟨rfl, rfl⟩ : g = g' /\ c = cap' := by simpa using hv
  have hgl := (Array.getElem?_eq_some_iff.1 hg).1
  refine .inr ⟨g, c, Sort.putCells id 0 (Sort.flatK encW 2 d) cur, rfl, hb, ?_, hc1, hc2, by simp [Sort.putCells, hc3], ?_⟩
  ·show ((Sort.putRowK encW 2 (Sort.ahead w m) g 0 d).heap ++ os)[g]? = _
   rw [Array.getElem?_append_left (by simp [Sort.putRowK, Sort.putRow, Sort.mapBlock, Sort.ahead]; exact hgl)]
   simp only [Sort.putRowK, Sort.putRow, Sort.mapBlock, Array.getElem?_modify, if_pos]
   show (w.heap[g]?).map _ = _
   rw [hg]; rfl
  ·have hfl : (flatI d.toList).length = M.length * 2 := by rw [flatI_length, hdl]
   have hfs : (Sort.flatK encW 2 d).size = M.length * 2 := by rw [Sort.size_flatK, hd]
   apply List.ext_getElem
   ·rw [hfl, List.length_take, Array.length_toList]
    simp [Sort.putCells, hc3]; omega
   ·intro i h1 h2
    rw [hfl] at h2
    have e2 : (flatI d.toList)[i]? = some (Sort.flatK encW 2 d)[i]! := by
     have := flatK_at d.toList i (by rw [hdl]; exact h2)
     simpa using this
    simp only [List.getElem_take, Array.getElem_toList, Sort.putCells, Array.getElem_mapIdx]
    rw [if_pos ⟨Nat.zero_le _, by omega⟩]
    have e3 := List.getElem?_eq_getElem (l := flatI d.toList) (i := i) (by rw [hfl]; exact h2)
    rw [e2] at e3
    simpa using (Option.some.inj e3)
theorem sort_own {B : Nat} {w : World} {g c : Nat} {M : List Wr} (h : OwnW B w (.slice (some ⟨g, 0, none⟩) M.length c) M) (hl : M.length <= 5000) :
  Calls Tryz.prog 157 #[.slice (some ⟨g, 0, none⟩) M.length c, .func (.func 158) #[] #[]] w fun e w' => e = .returned (.tuple #[]) /\ ∃ M' : List Wr, M'.Perm M /\ M'.Pairwise (fun a b => a.1 <= b.1) /\ OwnW B w' (.slice (some ⟨g, 0, none⟩) M.length c) M' /\ Only (fun k => k = g) w w' := by
 have hgl := (h.lt g rfl).2
 have hH := own_holdsW h
 have hsz : M.toArray.size = M.length := by simp
 have := AnyQ.slices_SortFunc Tryz.sortW 2 isAggW sizeOfW encW (fun _ => rfl) (fun x v hv => by simp [encW] at hv; rcases hv with rfl | rfl <;> rfl) (fun x y => Lib.compareInt x.1 y.1) swo_key 158 #[] g 0 c M.toArray w enters_dirty1 (fun _ _ _ _ x y => closure_any x y _) hH hgl (by rw [hsz]; omega)
 rw [hsz] at this
 refine this.mono fun e w' ⟨he, d', n, os, hp, hs, hw⟩ => ?_
 obtain ⟨hp1, _, hp3⟩ := hp
 have hds : d'.size = M.length := by rw [hp1, hsz]
 have hdl : d'.toList.length = M.length := by simpa using hds
 refine ⟨he, d'.toList, ?_, ?_, ?_, ?_⟩
 ·have e1 : d'.extract 0 M.length = d' := by rw [<- hds]; simp
  have e2 : M.toArray.extract 0 M.length = M.toArray := by rw [<- hsz]; simp
  rw [e1, e2] at hp3
  simpa using hp3
 ·rw [List.pairwise_iff_getElem]
  intro i j hi hj hij
  have := hs i j (Nat.zero_le _) hij (by rw [<- hdl]; exact hj)
  rw [ltOf_key] at this
  have ei : d'[i]! = d'.toList[i] := by rw [getElem!_pos d' i (by simpa using hi)]; simp
  have ej : d'[j]! = d'.toList[j] := by rw [getElem!_pos d' j (by simpa using hj)]; simp
  rw [ei, ej] at this
  have := of_decide_eq_false this
  omega
 ·rw [hw]; exact sortK_own h d' hds n os
 ·rw [hw]; exact sortK_only hgl
end Go.Proofs.YthambopnmhkeeaaGreat.Ca
/- Dirty in plain lists: what of the dirty ones a walk over the map has seen. -/
namespace Go.Proofs.YthambopnmhkeeaaGreat.Ca
open Go.RowKit WideAt Maps
def seen (L : List Kp) (left : Lit -> Bool) : List Wr := (dls L).filter fun x => !left (kl x.1)
theorem dls_mem {L : List Kp} {x : Wr} (h : x ∈ dls L) : ∃ y ∈ L, y.dirty = true /\ x = (y.key, y.data) := by
 obtain ⟨y, hy, rfl⟩ := List.mem_map.1 h
 obtain ⟨h1, h2⟩ := List.mem_filter.1 hy
 exact ⟨y, h1, h2, rfl⟩
theorem mem_dls {L : List Kp} {y : Kp} (h : y ∈ L) (hd : y.dirty = true) : (y.key, y.data) ∈ dls L := List.mem_map.2 ⟨y, List.mem_filter.2 ⟨h, hd⟩, rfl⟩
theorem key_is {L : List Kp} (hn : (keys L).Nodup) {x y : Kp} (hx : x ∈ L) (hy : y ∈ L) (he : x.key = y.key) : x = y := by
 obtain ⟨i, hi, rfl⟩ := List.getElem_of_mem hx
 obtain ⟨j, hj, rfl⟩ := List.getElem_of_mem hy
 have h1 := fx_of hn hi
 rw [he, fx_of hn hj] at h1
 simp only [Option.some.injEq, Prod.mk.injEq] at h1
 exact h1.2.symm
theorem dls_nd {L : List Kp} (hn : (keys L).Nodup) : (dls L).Nodup := by
 have := dls_nodup hn
 exact List.Pairwise.of_map (fun x : Wr => x.1) (fun a b hab e => hab (by rw [e])) this
theorem seen_start (L : List Kp) : seen L (Maps.has (toD L)) = [] := by
 unfold seen
 rw [List.filter_eq_nil_iff]
 intro x hx
 obtain ⟨y, hy, _, rfl⟩ := dls_mem hx
 have : Maps.has (toD L) (kl y.key) = true := by rw [has_toD]; exact decide_eq_true (List.mem_map.2 ⟨y, hy, rfl⟩)
 simp [this]
theorem seen_end (L : List Kp) {left : Lit -> Bool} (h : ∀ l, left l = false) : seen L left = dls L := by
 unfold seen
 rw [List.filter_eq_self]
 intro x _
 rw [h]; rfl
theorem same_kl (a b : Int) : (kl a).sameKey (kl b) = decide (a = b) := by
 by_cases e : a = b
 ·subst e; rw [WideAt.sameKey_self (show WideAt.IsKeyLit (kl a) from trivial)]; simp
 ·rw [sameKey_ne (by simpa [kl] using e)]; simp [e]
theorem seen_clean {L : List Kp} (hn : (keys L).Nodup) {left : Lit -> Bool} {y : Kp} (hy : y ∈ L) (hd : y.dirty = false) : seen L (fun z => left z && !z.sameKey (kl y.key)) = seen L left := by
 unfold seen
 refine List.filter_congr fun x hx => ?_
 obtain ⟨u, hu, hud, rfl⟩ := dls_mem hx
 have hne : u.key ≠ y.key := fun e => by have := key_is hn hu hy e; subst this; rw [hd] at hud; cases hud
 show (!(left (kl u.key) && !(kl u.key).sameKey (kl y.key))) = !left (kl u.key)
 rw [same_kl]
 simp [hne]
theorem seen_dirty {L : List Kp} (hn : (keys L).Nodup) {left : Lit -> Bool} {y : Kp} (hy : y ∈ L) (hl : left (kl y.key) = true) (hd : y.dirty = true) : (seen L (fun z => left z && !z.sameKey (kl y.key))).Perm (seen L left ++ [(y.key, y.data)]) := by
 have hni : (y.key, y.data) ∉ seen L left := by
  intro h
  have := (List.mem_filter.1 h).2
  simp only at this
  rw [hl] at this; cases this
 refine (List.perm_ext_iff_of_nodup ((dls_nd hn).filter _) ?_).2 fun x => ?_
 ·rw [List.nodup_append]
  refine ⟨(dls_nd hn).filter _, by simp, fun a ha b hb => ?_⟩
  rw [List.mem_singleton] at hb
  subst hb
  exact fun e => hni (e ▸ ha)
 ·unfold seen
  rw [List.mem_append, List.mem_filter, List.mem_filter, List.mem_singleton]
  show x ∈ dls L /\ (!(left (kl x.1) && !(kl x.1).sameKey (kl y.key))) = true ↔ _
  rw [same_kl]
  constructor
  ·rintro ⟨hx, h⟩
   by_cases e : x.1 = y.key
   ·right
    obtain ⟨u, hu, hud, rfl⟩ := dls_mem hx
    have := key_is hn hu hy e
    rw [this]
   ·left
    simp [e] at h
    exact ⟨hx, by simp [h]⟩
  ·rintro (⟨hx, h⟩ | rfl)
   ·refine ⟨hx, ?_⟩
    simp at h
    simp [h]
   ·exact ⟨mem_dls hy hd, by simp⟩
theorem entry_is {L : List Kp} (hn : (keys L).Nodup) (hw : Wf L) {x : Int} {s : ByteArray} {d : Bool} {m : Int} (h : ∀ zd, (toD L).atKey (kl x) zd = .agg [.lit (.string s.data.toList), .lit (.bool d), .lit (.int .i64 m)]) : ∃ y ∈ L, y.key = x /\ y.data = s /\ y.dirty = d := by
 cases hf : fx L x with
 | none =>
  have := h (.lit (.bool true))
  rw [atKey_no hf] at this
  cases this
 | some ky =>
  obtain ⟨k, y⟩ := ky
  have := h (.lit (.bool true))
  rw [atKey_yes hn hw hf] at this
  unfold Kp.dat at this
  simp only [DataW.agg.injEq, List.cons.injEq, DataW.lit.injEq, Lit.string.injEq, Lit.bool.injEq, and_true] at this
  refine ⟨y, fx_mem hf, (fx_some hf).2.2.1, ?_, this.2.1⟩
  have h1 := this.1
  exact ByteArray.ext (Array.ext' h1)
end Go.Proofs.YthambopnmhkeeaaGreat.Ca
