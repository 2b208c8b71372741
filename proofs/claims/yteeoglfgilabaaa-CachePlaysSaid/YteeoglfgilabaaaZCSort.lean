/- slices.SortFunc over a row of writes, by cmp.Compare of their blocks. -/
import Derived.Test.YteeoglfgilabaaaZCRowW
import Derived.Test.YteeoglfgilabaaaZShelf2
import Derived.Test.YteeoglfgilabaaaZCMap

namespace Go.Proofs.Yteeoglfgilabaaa
open Go.RowKit

set_option maxHeartbeats 1000000 in
set_option maxRecDepth 100000 in
/-- The closure: two blocks are laid. -/
theorem closure_any (x y : Wr) (W : World) : Calls Try.prog 38 #[.agg #[.int .i64 x.1, .string x.2], .agg #[.int .i64 y.1, .string y.2]] W fun e w' => e = .returned (.int .i64 (Lib.compareInt x.1 y.1)) ∧ ∃ q os', w' = Sort.grow (W.drewN q) os' := by
  have hcon := fun W' => Try.cmp_Compare_int x.1 y.1 W'
  generalize Lib.compareInt x.1 y.1 = r at hcon ⊢
  obtain ⟨x1, x2⟩ := x
  obtain ⟨y1, y2⟩ := y
  go_enter Try.func38, Try.ntmps38
  go_wp2_with (go_at_call 39; refine (hcon _).mono ?_; rintro e w' ⟨rfl, rfl⟩)
  go_ret
  exact ⟨rfl, 0, _, by rw [Sort.alloc_eq_grow, Sort.alloc_eq_grow, Sort.grow_grow]; rfl⟩
theorem ltOf_key (x y : Wr) : Go.Proofs.ltOf (fun x y : Wr => Lib.compareInt x.1 y.1) x y = decide (x.1 < y.1) := by
  unfold Go.Proofs.ltOf Lib.compareInt
  by_cases h1 : x.1 < y.1
  · simp [h1]
  · by_cases h2 : y.1 < x.1 <;> simp [h1, h2]
theorem swo_key : Sort.SWO (Go.Proofs.ltOf fun x y : Wr => Lib.compareInt x.1 y.1) where
  irrefl x := by rw [ltOf_key]; simp
  trans x y z h1 h2 := by rw [ltOf_key] at *; simp at *; omega
  ntrans x y z h1 h2 := by rw [ltOf_key] at *; simp at *; omega
theorem enters_dirty1 : ∀ args w, (callFunc 38 args).run Try.prog w = .ok (.enter 38 args) w := enters_of Try.func38 (by kernel_rfl) rfl
theorem isAggW : ∀ w, (isAgg 50).run Try.prog w = .ok true w := fun _ => by kernel_rfl
theorem sizeOfW : ∀ w, (Go.sizeOf 50).run Try.prog w = .ok 2 w := fun _ => by kernel_rfl
theorem sortK_only {w : World} {g m : Nat} {d : Array Wr} {os : Array Obj} (hg : g < w.heap.size) : Only (fun k => k = g) w (sortWorldK encW 2 w g 0 m d os) := by
  unfold sortWorldK
  refine ⟨rfl, rfl, rfl, by simp [Sort.putRowK, Sort.putRow, Sort.mapBlock, Sort.ahead], fun k hk hne => ?_⟩
  rw [Sort.heap_grow_old _ _ (by simpa [Sort.putRowK, Sort.putRow, Sort.mapBlock, Sort.ahead] using hk)]
  show ((Sort.ahead w m).heap.modify g _)[k]? = w.heap[k]?
  rw [Array.getElem?_modify, if_neg (fun e => hne e.symm)]; rfl
/-- A row of one's own, sorted: it reads as its writes by rising blocks. -/
theorem sort_some {B : Nat} {w : World} {g c : Nat} {M : List Wr} (h : OwnW B w (.slice (some ⟨g, 0, none⟩) M.length c) M) (hl : M.length ≤ 5000) :
    Calls Try.prog 37 #[.slice (some ⟨g, 0, none⟩) M.length c, .func (.func 38) #[] #[]] w fun e w' => e = .returned (.tuple #[]) ∧ ∃ M' : List Wr, M'.Perm M ∧ M'.Pairwise (fun a b => a.1 ≤ b.1) ∧ SlW w' (.slice (some ⟨g, 0, none⟩) M.length c) M' ∧ Only (fun k => k = g) w w' := by
  have hgl := (h.lt g rfl).2
  have hH := own_holdsW h
  have hsz : M.toArray.size = M.length := by simp
  have := AnyQ.slices_SortFunc Try.sortW 2 isAggW sizeOfW encW (fun _ => rfl) (fun x v hv => by simp [encW] at hv; rcases hv with rfl | rfl <;> rfl) (fun x y => Lib.compareInt x.1 y.1) swo_key 38 #[] g 0 c M.toArray w enters_dirty1 (fun _ _ _ _ x y => closure_any x y _) hH hgl (by rw [hsz]; omega)
  rw [hsz] at this
  refine this.mono fun e w' ⟨he, d', n, os, hp, hs, hw⟩ => ?_
  obtain ⟨hp1, _, hp3⟩ := hp
  have hds : d'.size = M.length := by rw [hp1, hsz]
  have hdl : d'.toList.length = M.length := by simpa using hds
  refine ⟨he, d'.toList, ?_, ?_, ?_, ?_⟩
  · have e1 : d'.extract 0 M.length = d' := by rw [← hds]; simp
    have e2 : M.toArray.extract 0 M.length = M.toArray := by rw [← hsz]; simp
    rw [e1, e2] at hp3
    simpa using hp3
  · rw [List.pairwise_iff_getElem]
    intro i j hi hj hij
    have := hs i j (Nat.zero_le _) hij (by rw [← hdl]; exact hj)
    rw [ltOf_key] at this
    have ei : d'[i]! = d'.toList[i] := by rw [getElem!_pos d' i (by simpa using hi)]; simp
    have ej : d'[j]! = d'.toList[j] := by rw [getElem!_pos d' j (by simpa using hj)]; simp
    rw [ei, ej] at this
    have := of_decide_eq_false this
    omega
  · have hK := Go.Proofs.holdsK_sortWorldK_c encW 2 w g 0 M.toArray d' n os hH hgl (by rw [hds, hsz])
    rw [← hw] at hK
    refine ⟨_, c, by rw [hdl], .inr ⟨g, rfl, ?_, fun j hj => ?_⟩⟩
    · rw [hw]; exact Nat.lt_of_lt_of_le hgl (sortK_only hgl).size
    · have hj' : j < d'.size := by simpa using hj
      have ej : d'[j]! = d'.toList[j] := by rw [getElem!_pos d' j hj']; simp
      have h0 := (Sort.HoldsK.cell hK hj' (show 0 < 2 by omega)).1
      have h1 := (Sort.HoldsK.cell hK hj' (show 1 < 2 by omega)).1
      rw [ej] at h0 h1
      rw [Nat.zero_add] at h0 h1
      exact ⟨h0, h1⟩
  · rw [hw]; exact sortK_only hgl
end Go.Proofs.Yteeoglfgilabaaa
/- Dirty in plain lists: what of the dirty ones a walk over the map has seen. -/
namespace Go.Proofs.Yteeoglfgilabaaa
open Go.RowKit WideAt Maps

def seen (L : List Kp) (left : Lit → Bool) : List Wr := (dls L).filter fun x => !left (kl x.1)
theorem dls_mem {L : List Kp} {x : Wr} (h : x ∈ dls L) : ∃ y ∈ L, y.dirty = true ∧ x = (y.key, y.data) := by
  obtain ⟨y, hy, rfl⟩ := List.mem_map.1 h
  obtain ⟨h1, h2⟩ := List.mem_filter.1 hy
  exact ⟨y, h1, h2, rfl⟩
theorem mem_dls {L : List Kp} {y : Kp} (h : y ∈ L) (hd : y.dirty = true) : (y.key, y.data) ∈ dls L := List.mem_map.2 ⟨y, List.mem_filter.2 ⟨h, hd⟩, rfl⟩
theorem key_is {L : List Kp} (hn : (keys L).Nodup) {x y : Kp} (hx : x ∈ L) (hy : y ∈ L) (he : x.key = y.key) : x = y := by
  obtain ⟨i, hi, rfl⟩ := List.getElem_of_mem hx
  obtain ⟨j, hj, rfl⟩ := List.getElem_of_mem hy
  have h1 := fx_of hn hi
  rw [he, fx_of hn hj] at h1
  simp only [Option.some.injEq, Prod.mk.injEq] at h1
  exact h1.2.symm
theorem dls_nd {L : List Kp} (hn : (keys L).Nodup) : (dls L).Nodup := by
  have := dls_nodup hn
  exact List.Pairwise.of_map (fun x : Wr => x.1) (fun a b hab e => hab (by rw [e])) this
theorem seen_start (L : List Kp) : seen L (Maps.has (toD L)) = [] := by
  unfold seen
  rw [List.filter_eq_nil_iff]
  intro x hx
  obtain ⟨y, hy, _, rfl⟩ := dls_mem hx
  have : Maps.has (toD L) (kl y.key) = true := by rw [has_toD]; exact decide_eq_true (List.mem_map.2 ⟨y, hy, rfl⟩)
  simp [this]
theorem seen_end (L : List Kp) {left : Lit → Bool} (h : ∀ l, left l = false) : seen L left = dls L := by
  unfold seen
  rw [List.filter_eq_self]
  intro x _
  rw [h]; rfl
theorem same_kl (a b : Int) : (kl a).sameKey (kl b) = decide (a = b) := by
  by_cases e : a = b
  · subst e; rw [WideAt.sameKey_self (show WideAt.IsKeyLit (kl a) from trivial)]; simp
  · rw [sameKey_ne (by simpa [kl] using e)]; simp [e]
theorem seen_clean {L : List Kp} (hn : (keys L).Nodup) {left : Lit → Bool} {y : Kp} (hy : y ∈ L) (hd : y.dirty = false) : seen L (fun z => left z && !z.sameKey (kl y.key)) = seen L left := by
  unfold seen
  refine List.filter_congr fun x hx => ?_
  obtain ⟨u, hu, hud, rfl⟩ := dls_mem hx
  have hne : u.key ≠ y.key := fun e => by have := key_is hn hu hy e; subst this; rw [hd] at hud; cases hud
  show (!(left (kl u.key) && !(kl u.key).sameKey (kl y.key))) = !left (kl u.key)
  rw [same_kl]
  simp [hne]
theorem seen_dirty {L : List Kp} (hn : (keys L).Nodup) {left : Lit → Bool} {y : Kp} (hy : y ∈ L) (hl : left (kl y.key) = true) (hd : y.dirty = true) : (seen L (fun z => left z && !z.sameKey (kl y.key))).Perm (seen L left ++ [(y.key, y.data)]) := by
  have hni : (y.key, y.data) ∉ seen L left := by
    intro h
    have := (List.mem_filter.1 h).2
    simp only at this
    rw [hl] at this; cases this
  refine (List.perm_ext_iff_of_nodup ((dls_nd hn).filter _) ?_).2 fun x => ?_
  · rw [List.nodup_append]
    refine ⟨(dls_nd hn).filter _, by simp, fun a ha b hb => ?_⟩
    rw [List.mem_singleton] at hb
    subst hb
    exact fun e => hni (e ▸ ha)
  · unfold seen
    rw [List.mem_append, List.mem_filter, List.mem_filter, List.mem_singleton]
    show x ∈ dls L ∧ (!(left (kl x.1) && !(kl x.1).sameKey (kl y.key))) = true ↔ _
    rw [same_kl]
    constructor
    · rintro ⟨hx, h⟩
      by_cases e : x.1 = y.key
      · right
        obtain ⟨u, hu, hud, rfl⟩ := dls_mem hx
        have := key_is hn hu hy e
        rw [this]
      · left
        simp [e] at h
        exact ⟨hx, by simp [h]⟩
    · rintro (⟨hx, h⟩ | rfl)
      · refine ⟨hx, ?_⟩
        simp at h
        simp [h]
      · exact ⟨mem_dls hy hd, by simp⟩
/-- What an entry of the map is. -/
theorem entry_is {L : List Kp} (hn : (keys L).Nodup) (hw : Wf L) {x : Int} {s : ByteArray} {d : Bool} {m : Int} (h : ∀ zd, (toD L).atKey (kl x) zd = .agg [.lit (.string s.data.toList), .lit (.bool d), .lit (.int .i64 m)]) : ∃ y ∈ L, y.key = x ∧ y.data = s ∧ y.dirty = d := by
  cases hf : fx L x with
  | none =>
    have := h (.lit (.bool true))
    rw [atKey_no hf] at this
    cases this
  | some ky =>
    obtain ⟨k, y⟩ := ky
    have := h (.lit (.bool true))
    rw [atKey_yes hn hw hf] at this
    unfold Kp.dat at this
    simp only [DataW.agg.injEq, List.cons.injEq, DataW.lit.injEq, Lit.string.injEq, Lit.bool.injEq, and_true] at this
    refine ⟨y, fx_mem hf, (fx_some hf).2.2.1, ?_, this.2.1⟩
    have h1 := this.1
    exact ByteArray.ext (Array.ext' h1)
end Go.Proofs.Yteeoglfgilabaaa
