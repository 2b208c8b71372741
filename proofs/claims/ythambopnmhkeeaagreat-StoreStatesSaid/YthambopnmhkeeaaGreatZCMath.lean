/- A cache in plain lists: what each call answers and leaves; nothing of the program is spoken of here. -/
import Derived.Test.YthambopnmhkeeaaGreatRows

namespace Go.Proofs.YthambopnmhkeeaaGreat.Ca
structure Kp where
 key : Int
 data : ByteArray
 dirty : Bool
 pins : Nat
structure CS where
 L : List Kp
 most : Nat
 misses : Nat
def fx : List Kp -> Int -> Option (Nat × Kp)
 | [], _ => none
 | x :: r, i => if x.key = i then some (0, x) else (fx r i).map fun p => (p.1 + 1, p.2)
def Kp.free (x : Kp) : Bool := !x.dirty && x.pins == 0
def lf : List Kp -> Option Nat
 | [] => none
 | x :: r => match lf r with
  | some k => some (k + 1)
  | none => if x.free then some 0 else none
def room (L : List Kp) (most : Nat) : Option (List Kp) := if L.length < most then some L else (lf L).map fun k => L.eraseIdx k
def CS.get (C : CS) (i : Int) (told : ByteArray) (e : Int) : (ByteArray × Int) × CS :=
 match fx C.L i with
 | some (k, x) => ((x.data, 0), { C with L := x :: C.L.eraseIdx k })
 | none => if e ≠ 0 then ((⟨#[]⟩, e), C) else match room C.L C.most with
  | none => ((⟨#[]⟩, 14), C)
  | some L => ((told, 0), { C with L := ⟨i, told, false, 0⟩ :: L, misses := C.misses + 1 })
def CS.put (C : CS) (i : Int) (s : ByteArray) : Int × CS :=
 if s.size ≠ 256 then (3, C) else match fx C.L i with
 | some (k, x) => (0, { C with L := { x with data := s, dirty := true } :: C.L.eraseIdx k })
 | none => match room C.L C.most with
  | none => (14, C)
  | some L => (0, { C with L := ⟨i, s, true, 0⟩ :: L })
def CS.clean (C : CS) : CS := { C with L := C.L.map fun x => { x with dirty := false } }
def CS.drop (C : CS) : CS := { C with L := C.L.filter fun x => !x.dirty }
def ins (x : Int × ByteArray) : List (Int × ByteArray) -> List (Int × ByteArray)
 | [] => [x]
 | y :: r => if y.1 < x.1 then y :: ins x r else x :: y :: r
def dls (L : List Kp) : List (Int × ByteArray) := (L.filter fun x => x.dirty).map fun x => (x.key, x.data)
def CS.dirty (C : CS) : List (Int × ByteArray) := (dls C.L).foldl (fun o x => ins x o) []
def keys (L : List Kp) : List Int := L.map fun x => x.key
structure CS.Ok (C : CS) : Prop where
 nodup : (keys C.L).Nodup
 len : C.L.length <= C.most
 m0 : 1 <= C.most
 m1 : C.most <= 1024
 ms : C.misses <= 1000000
 wf : ∀ x ∈ C.L, -9223372036854775808 <= x.key /\ x.key <= 9223372036854775807
 ds : ∀ x ∈ C.L, x.data.size <= 1000000
 pn : ∀ x ∈ C.L, x.pins <= 1000000
theorem fx_some {L : List Kp} {i : Int} {k : Nat} {x : Kp} (h : fx L i = some (k, x)) : ∃ hk : k < L.length, L[k] = x /\ x.key = i /\ ∀ j (hj : j < k), (L[j]'(by omega)).key ≠ i := by
 induction L generalizing k with
 | nil => cases h
 | cons y r ih =>
  unfold fx at h
  split at h
  ·rename_i e
   simp at h
   obtain ⟨rfl, rfl⟩ := h
   exact ⟨by simp, rfl, e, fun j hj => absurd hj (Nat.not_lt_zero _)⟩
  ·rename_i e
   simp only [Option.map_eq_some_iff, Prod.mk.injEq] at h
   obtain ⟨⟨k', x'⟩, h', rfl, rfl⟩ := h
   obtain ⟨hk, h1, h2, h3⟩ := ih h'
   refine ⟨by simpa using hk, by simpa using h1, h2, fun j hj => ?_⟩
   cases j with
   | zero => exact e
   | succ j => simpa using h3 j (by omega)
theorem fx_none {L : List Kp} {i : Int} (h : fx L i = none) : ∀ x ∈ L, x.key ≠ i := by
 induction L with
 | nil => intro x hx; cases hx
 | cons y r ih =>
  unfold fx at h
  split at h
  ·cases h
  ·rename_i e
   simp only [Option.map_eq_none_iff] at h
   intro x hx
   rcases List.mem_cons.1 hx with rfl | hx
   ·exact e
   ·exact ih h x hx
theorem fx_mem {L : List Kp} {i : Int} {k : Nat} {x : Kp} (h : fx L i = some (k, x)) : x ∈ L := by
 obtain ⟨hk, h1, _⟩ := fx_some h
 exact h1 ▸ List.getElem_mem hk
theorem fx_of {L : List Kp} (hn : (keys L).Nodup) {k : Nat} (hk : k < L.length) : fx L L[k].key = some (k, L[k]) := by
 induction L generalizing k with
 | nil => cases hk
 | cons y r ih =>
  obtain ⟨h1, h2⟩ := List.nodup_cons.1 (show (y.key :: keys r).Nodup from hn)
  cases k with
  | zero => unfold fx; simp
  | succ j =>
   have hj : j < r.length := by simpa using hk
   have hne : y.key ≠ r[j].key := fun e => h1 (by rw [e]; exact List.mem_map.2 ⟨_, List.getElem_mem hj, rfl⟩)
   unfold fx
   simp only [List.getElem_cons_succ]
   rw [if_neg hne, ih h2 hj]
   rfl
theorem idx_key {L : List Kp} {i : Int} {k : Nat} {x : Kp} (h : fx L i = some (k, x)) : (keys L).idxOf i = k := by
 induction L generalizing k with
 | nil => cases h
 | cons y r ih =>
  unfold fx at h
  unfold keys
  rw [List.map_cons, List.idxOf_cons]
  split at h
  ·rename_i e
   simp at h
   obtain ⟨rfl, rfl⟩ := h
   simp [e]
  ·rename_i e
   simp only [Option.map_eq_some_iff, Prod.mk.injEq] at h
   obtain ⟨⟨k', x'⟩, h', rfl, rfl⟩ := h
   have := ih h'
   unfold keys at this
   have e' : (y.key == i) = false := beq_eq_false_iff_ne.2 e
   rw [e']; simp [this]
theorem fx_none_iff {L : List Kp} {i : Int} : fx L i = none ↔ i ∉ keys L := by
 constructor
 ·intro h hm
  obtain ⟨x, hx, e⟩ := List.mem_map.1 hm
  exact fx_none h x hx e
 ·intro h
  cases hf : fx L i with
  | none => rfl
  | some p =>
   obtain ⟨k, x⟩ := p
   obtain ⟨hk, h1, h2, _⟩ := fx_some hf
   exact absurd (List.mem_map.2 ⟨x, fx_mem hf, h2⟩) h
theorem lf_some {L : List Kp} {k : Nat} (h : lf L = some k) : ∃ hk : k < L.length, L[k].free = true /\ ∀ j (hj : j < L.length), k < j -> L[j].free = false := by
 induction L generalizing k with
 | nil => cases h
 | cons y r ih =>
  unfold lf at h
  cases hr : lf r with
  | some m =>
   rw [hr] at h
   simp at h
   subst h
   obtain ⟨hk, h1, h2⟩ := ih hr
   refine ⟨by simpa using hk, by simpa using h1, fun j hj hm => ?_⟩
   cases j with
   | zero => omega
   | succ j => simpa using h2 j (by simpa using hj) (by omega)
  | none =>
   rw [hr] at h
   simp only [Option.ite_none_right_eq_some, Option.some.injEq] at h
   obtain ⟨h, rfl⟩ := h
   refine ⟨by simp, h, fun j hj hm => ?_⟩
   cases j with
   | zero => omega
   | succ j =>
    have hj' : j < r.length := by simpa using hj
    have : ∀ (s : List Kp), lf s = none -> ∀ x ∈ s, x.free = false := by
     intro s
     induction s with
     | nil => intro _ x hx; cases hx
     | cons z t iht =>
      intro hs x hx
      unfold lf at hs
      cases ht : lf t with
      | some m => rw [ht] at hs; cases hs
      | none =>
       rw [ht] at hs
       simp only at hs
       rcases List.mem_cons.1 hx with rfl | hx
       ·cases hf : x.free
        ·rfl
        ·rw [hf] at hs; simp at hs
       ·exact iht ht x hx
    simpa using this r hr _ (List.getElem_mem hj')
theorem lf_none {L : List Kp} (h : lf L = none) : ∀ x ∈ L, x.free = false := by
 induction L with
 | nil => intro x hx; cases hx
 | cons y r ih =>
  intro x hx
  unfold lf at h
  cases ht : lf r with
  | some m => rw [ht] at h; cases h
  | none =>
   rw [ht] at h
   simp only at h
   rcases List.mem_cons.1 hx with rfl | hx
   ·cases hf : x.free
    ·rfl
    ·rw [hf] at h; simp at h
   ·exact ih ht x hx
theorem lf_is {L : List Kp} {k : Nat} (hk : k < L.length) (h1 : L[k].free = true) (h2 : ∀ j (hj : j < L.length), k < j -> L[j].free = false) : lf L = some k := by
 cases h : lf L with
 | none => have := lf_none h _ (List.getElem_mem hk); rw [this] at h1; cases h1
 | some m =>
  obtain ⟨hm, g1, g2⟩ := lf_some h
  rcases Nat.lt_trichotomy m k with hlt | rfl | hlt
  ·have := g2 k hk hlt; rw [this] at h1; cases h1
  ·rfl
  ·have := h2 m hm hlt; rw [this] at g1; cases g1
theorem lf_is_none {L : List Kp} (h : ∀ j (hj : j < L.length), L[j].free = false) : lf L = none := by
 cases hl : lf L with
 | none => rfl
 | some m => obtain ⟨hm, g1, _⟩ := lf_some hl; rw [h m hm] at g1; cases g1
theorem keys_erase (L : List Kp) (k : Nat) : keys (L.eraseIdx k) = (keys L).eraseIdx k := by
 unfold keys
 induction L generalizing k with
 | nil => rfl
 | cons y r ih => cases k with
  | zero => rfl
  | succ j => simp [ih]
theorem perm_front {α : Type} {L : List α} {k : Nat} (hk : k < L.length) : (L[k] :: L.eraseIdx k).Perm L := by
 induction L generalizing k with
 | nil => cases hk
 | cons y r ih =>
  cases k with
  | zero => exact List.Perm.refl _
  | succ j =>
   have hj : j < r.length := by simpa using hk
   simp only [List.getElem_cons_succ, List.eraseIdx_cons_succ]
   exact (List.Perm.swap _ _ _).trans ((ih hj).cons _)
theorem nodup_erase {L : List Kp} (h : (keys L).Nodup) (k : Nat) : (keys (L.eraseIdx k)).Nodup := by
 rw [keys_erase]; exact h.sublist (List.eraseIdx_sublist _ _)
theorem mem_erase {L : List Kp} {k : Nat} {x : Kp} (h : x ∈ L.eraseIdx k) : x ∈ L := (List.eraseIdx_sublist _ _).subset h
theorem keys_set {L : List Kp} {k : Nat} (hk : k < L.length) {y : Kp} (h : y.key = L[k].key) : keys (L.set k y) = keys L := by
 unfold keys
 rw [List.map_set, h]
 have : (L.map fun x => x.key)[k]'(by simpa using hk) = L[k].key := by simp
 rw [<- this, List.set_getElem_self]
theorem not_mem_erase {L : List Kp} (hn : (keys L).Nodup) {i : Int} {k : Nat} {x : Kp} (h : fx L i = some (k, x)) : i ∉ keys (L.eraseIdx k) := by
 obtain ⟨hk, h1, h2, _⟩ := fx_some h
 have hp : (keys (L[k] :: L.eraseIdx k)).Nodup := ((perm_front hk).map _).nodup_iff.2 hn
 have := (List.nodup_cons.1 (show (L[k].key :: keys (L.eraseIdx k)).Nodup from hp)).1
 rwa [h1, h2] at this
theorem room_len {L M : List Kp} {most : Nat} (hm : 1 <= most) (hl : L.length <= most) (h : room L most = some M) : M.length < most := by
 unfold room at h
 split at h
 ·cases h; assumption
 ·simp only [Option.map_eq_some_iff] at h
  obtain ⟨k, hk, rfl⟩ := h
  obtain ⟨hk, _⟩ := lf_some hk
  rw [List.length_eraseIdx]
  split <;> omega
theorem room_sub {L M : List Kp} {most : Nat} (h : room L most = some M) : M.Sublist L := by
 unfold room at h
 split at h
 ·cases h; exact List.Sublist.refl _
 ·simp only [Option.map_eq_some_iff] at h
  obtain ⟨k, hk, rfl⟩ := h
  exact List.eraseIdx_sublist _ _
section
variable {C : CS}
theorem CS.Ok.front (ok : C.Ok) {i : Int} {k : Nat} {x : Kp} (h : fx C.L i = some (k, x)) {y : Kp} (hy : y.key = x.key) (hd : y.data.size <= 1000000) (hp : y.pins <= 1000000) : ({ C with L := y :: C.L.eraseIdx k } : CS).Ok := by
 obtain ⟨hk, h1, h2, _⟩ := fx_some h
 have hm := fx_mem h
 refine ⟨?_, ?_, ok.m0, ok.m1, ok.ms, ?_, ?_, ?_⟩
 ·show (y.key :: keys (C.L.eraseIdx k)).Nodup
  rw [hy, h2]
  exact List.nodup_cons.2 ⟨not_mem_erase ok.nodup h, nodup_erase ok.nodup k⟩
 ·show (y :: C.L.eraseIdx k).length <= C.most
  have := ok.len
  rw [List.length_cons, List.length_eraseIdx]
  split <;> omega
 ·intro z hz
  rcases List.mem_cons.1 hz with rfl | hz
  ·rw [hy]; exact ok.wf x hm
  ·exact ok.wf z (mem_erase hz)
 ·intro z hz
  rcases List.mem_cons.1 hz with rfl | hz
  ·exact hd
  ·exact ok.ds z (mem_erase hz)
 ·intro z hz
  rcases List.mem_cons.1 hz with rfl | hz
  ·exact hp
  ·exact ok.pn z (mem_erase hz)
theorem CS.Ok.fresh (ok : C.Ok) {i : Int} (hi : -9223372036854775808 <= i /\ i <= 9223372036854775807) (h : fx C.L i = none) {M : List Kp} (hr : room C.L C.most = some M) {s : ByteArray} (hs : s.size <= 1000000) (d : Bool) {m : Nat} (hm : m <= 1000000) :
  ({ C with L := ⟨i, s, d, 0⟩ :: M, misses := m } : CS).Ok := by
 have hsub := room_sub hr
 refine ⟨?_, ?_, ok.m0, ok.m1, hm, ?_, ?_, ?_⟩
 ·show (i :: keys M).Nodup
  exact List.nodup_cons.2 ⟨fun hm => fx_none_iff.1 h ((hsub.map _).subset hm), ok.nodup.sublist (hsub.map _)⟩
 ·show (_ :: M).length <= C.most
  have := room_len ok.m0 ok.len hr
  simp only [List.length_cons]; omega
 ·intro z hz
  rcases List.mem_cons.1 hz with rfl | hz
  ·exact hi
  ·exact ok.wf z (hsub.subset hz)
 ·intro z hz
  rcases List.mem_cons.1 hz with rfl | hz
  ·exact hs
  ·exact ok.ds z (hsub.subset hz)
 ·intro z hz
  rcases List.mem_cons.1 hz with rfl | hz
  ·exact Nat.zero_le _
  ·exact ok.pn z (hsub.subset hz)
theorem CS.Ok.set (ok : C.Ok) {i : Int} {k : Nat} {x : Kp} (h : fx C.L i = some (k, x)) {y : Kp} (hy : y.key = x.key) (hd : y.data.size <= 1000000) (hp : y.pins <= 1000000) : ({ C with L := C.L.set k y } : CS).Ok := by
 obtain ⟨hk, h1, h2, _⟩ := fx_some h
 have hm := fx_mem h
 refine ⟨?_, by simpa using ok.len, ok.m0, ok.m1, ok.ms, ?_, ?_, ?_⟩
 ·show (keys (C.L.set k y)).Nodup
  rw [keys_set hk (by rw [hy, h1])]; exact ok.nodup
 ·intro z hz
  rcases List.mem_or_eq_of_mem_set hz with hz | rfl
  ·exact ok.wf z hz
  ·rw [hy]; exact ok.wf x hm
 ·intro z hz
  rcases List.mem_or_eq_of_mem_set hz with hz | rfl
  ·exact ok.ds z hz
  ·exact hd
 ·intro z hz
  rcases List.mem_or_eq_of_mem_set hz with hz | rfl
  ·exact ok.pn z hz
  ·exact hp
theorem CS.Ok.clean (ok : C.Ok) : C.clean.Ok := by
 have e : keys C.clean.L = keys C.L := by unfold keys CS.clean; simp [Function.comp_def]
 refine ⟨e ▸ ok.nodup, by simpa [CS.clean] using ok.len, ok.m0, ok.m1, ok.ms, ?_, ?_, ?_⟩ <;>
 ·intro z hz
  obtain ⟨x, hx, rfl⟩ := List.mem_map.1 hz
  first | exact ok.wf x hx | exact ok.ds x hx | exact ok.pn x hx
theorem CS.Ok.drop (ok : C.Ok) : C.drop.Ok := by
 have hs : C.drop.L.Sublist C.L := List.filter_sublist
 exact ⟨ok.nodup.sublist (hs.map _), Nat.le_trans hs.length_le ok.len, ok.m0, ok.m1, ok.ms, fun z hz => ok.wf z (hs.subset hz), fun z hz => ok.ds z (hs.subset hz), fun z hz => ok.pn z (hs.subset hz)⟩
end
theorem ins_perm (x : Int × ByteArray) (l : List (Int × ByteArray)) : (ins x l).Perm (x :: l) := by
 induction l with
 | nil => exact List.Perm.refl _
 | cons y r ih =>
  unfold ins
  split
  ·exact (ih.cons y).trans (List.Perm.swap _ _ _)
  ·exact List.Perm.refl _
theorem fold_perm (l o : List (Int × ByteArray)) : (l.foldl (fun o x => ins x o) o).Perm (l ++ o) := by
 induction l generalizing o with
 | nil => exact List.Perm.refl _
 | cons x r ih =>
  rw [List.foldl_cons]
  refine (ih _).trans (((ins_perm x o).append_left r).trans ?_)
  exact List.perm_middle
def Rise (l : List (Int × ByteArray)) : Prop := l.Pairwise fun a b => a.1 < b.1
theorem ins_rise (x : Int × ByteArray) (l : List (Int × ByteArray)) (h : Rise l) (hx : ∀ y ∈ l, y.1 ≠ x.1) : Rise (ins x l) := by
 induction l with
 | nil => exact List.pairwise_singleton _ _
 | cons y r ih =>
  obtain ⟨h1, h2⟩ := List.pairwise_cons.1 h
  unfold ins
  split
  ·rename_i hlt
   refine List.pairwise_cons.2 ⟨fun z hz => ?_, ih h2 (fun z hz => hx z (by simp [hz]))⟩
   rcases List.mem_cons.1 ((ins_perm x r).mem_iff.1 hz) with rfl | hz
   ·exact hlt
   ·exact h1 z hz
  ·rename_i hge
   have hy : x.1 < y.1 := by have := hx y (by simp); omega
   refine List.pairwise_cons.2 ⟨fun z hz => ?_, h⟩
   rcases List.mem_cons.1 hz with rfl | hz
   ·exact hy
   ·have := h1 z hz; omega
theorem fold_rise (l o : List (Int × ByteArray)) (ho : Rise o) (hn : ((l ++ o).map fun x => x.1).Nodup) : Rise (l.foldl (fun o x => ins x o) o) := by
 induction l generalizing o with
 | nil => exact ho
 | cons x r ih =>
  rw [List.foldl_cons]
  have hp : (r ++ ins x o).Perm ((x :: r) ++ o) := ((ins_perm x o).append_left r).trans List.perm_middle
  refine ih _ (ins_rise x o ho fun y hy e => ?_) ((hp.map _).nodup_iff.2 hn)
  have h1 : x.1 ∉ (r ++ o).map fun x => x.1 := (List.nodup_cons.1 (show (x.1 :: (r ++ o).map fun x => x.1).Nodup from hn)).1
  exact h1 (List.mem_map.2 ⟨y, List.mem_append.2 (.inr hy), e⟩)
theorem dls_nodup {L : List Kp} (h : (keys L).Nodup) : ((dls L).map fun x => x.1).Nodup := by
 unfold dls
 rw [List.map_map]
 exact (h.sublist ((List.filter_sublist (p := fun x : Kp => x.dirty) (l := L)).map _))
theorem CS.dirty_perm (C : CS) : C.dirty.Perm (dls C.L) := by have := fold_perm (dls C.L) []; rw [List.append_nil] at this; exact this
theorem CS.dirty_rise {C : CS} (h : (keys C.L).Nodup) : Rise C.dirty := fold_rise _ [] List.Pairwise.nil (by simpa using dls_nodup h)
theorem rise_eq {l m : List (Int × ByteArray)} (hp : l.Perm m) (hl : Rise l) (hm : Rise m) : l = m :=
 hp.eq_of_pairwise (fun a b _ _ h1 h2 => by omega) hl hm
end Go.Proofs.YthambopnmhkeeaaGreat.Ca
/- A store's cache in plain lists: what it keeps of the blocks that are told (t) and touched (d): what is told does not depend on what is kept; nothing of the program is spoken of here. -/
namespace Go.Proofs.YthambopnmhkeeaaGreat.Ca
structure Kc (C : CS) (t : Int -> ByteArray) (d : Int -> Bool) : Prop where
 ok : C.Ok
 data : ∀ x ∈ C.L, x.data = t x.key /\ x.dirty = d x.key /\ x.pins = 0
 all : ∀ i, d i = true -> i ∈ keys C.L
def CS.nd (C : CS) : Nat := C.L.countP (·.dirty)
theorem nd_dirty (C : CS) : C.dirty.length = C.nd := by
 rw [C.dirty_perm.length_eq]
 unfold dls CS.nd
 rw [List.length_map, List.countP_eq_length_filter]
theorem Kc.of_key {C : CS} {t : Int -> ByteArray} {d : Int -> Bool} (h : Kc C t d) {i : Int} {k : Nat} {x : Kp} (hf : fx C.L i = some (k, x)) : x.key = i /\ x.data = t i /\ x.dirty = d i /\ x.pins = 0 := by
 obtain ⟨_, _, hk, _⟩ := fx_some hf
 obtain ⟨h1, h2, h3⟩ := h.data x (fx_mem hf)
 rw [hk] at h1 h2
 exact ⟨hk, h1, h2, h3⟩
theorem Kc.room {C : CS} {t : Int -> ByteArray} {d : Int -> Bool} (h : Kc C t d) (hn : C.nd < C.most) : ∃ M, room C.L C.most = some M /\ M.Sublist C.L /\ M.countP (·.dirty) = C.nd := by
 unfold Go.Proofs.YthambopnmhkeeaaGreat.Ca.room
 by_cases hl : C.L.length < C.most
 ·rw [if_pos hl]
  exact ⟨C.L, rfl, List.Sublist.refl _, rfl⟩
 ·rw [if_neg hl]
  cases hf : lf C.L with
  | none =>
   have hall : ∀ x ∈ C.L, x.dirty = true := fun x hx => by
    have h1 := lf_none hf x hx
    obtain ⟨_, _, h2⟩ := h.data x hx
    unfold Kp.free at h1
    rw [h2] at h1
    cases hd : x.dirty with
    | true => rfl
    | false => rw [hd] at h1; cases h1
   have : C.nd = C.L.length := List.countP_eq_length.2 hall
   omega
  | some k =>
   refine ⟨C.L.eraseIdx k, rfl, List.eraseIdx_sublist _ _, ?_⟩
   obtain ⟨hk, h1, _⟩ := lf_some hf
   have hd : C.L[k].dirty = false := by
    unfold Kp.free at h1
    cases hd : C.L[k].dirty with
    | false => rfl
    | true => rw [hd] at h1; cases h1
   have hp := (perm_front hk).countP_eq (·.dirty)
   rw [List.countP_cons_of_neg (by rw [hd]; simp)] at hp
   exact hp
theorem room_touched {L M : List Kp} {most : Nat} (h : room L most = some M) {x : Kp} (hx : x ∈ L) (hd : x.dirty = true) : x ∈ M := by
 unfold room at h
 split at h
 ·cases h; exact hx
 ·simp only [Option.map_eq_some_iff] at h
  obtain ⟨k, hk, rfl⟩ := h
  obtain ⟨hk, h1, _⟩ := lf_some hk
  rcases List.mem_cons.1 ((perm_front hk).mem_iff.2 hx) with e | e
  ·unfold Kp.free at h1
   rw [<- e, hd] at h1
   cases h1
  ·exact e
section
variable {C : CS} {t : Int -> ByteArray} {d : Int -> Bool}
theorem Kc.get (h : Kc C t d) (i : Int) (hi : -9223372036854775808 <= i /\ i <= 9223372036854775807) (hn : C.nd < C.most) (hm : C.misses < 1000000) (ht : (t i).size <= 1000000) (H : ByteArray) (hH : d i = false -> H = t i) :
  (C.get i H 0).1 = (t i, 0) /\ Kc (C.get i H 0).2 t d /\ (C.get i H 0).2.nd = C.nd /\ (C.get i H 0).2.most = C.most /\ (C.get i H 0).2.misses <= C.misses + 1 := by
 unfold CS.get
 cases hf : fx C.L i with
 | some p =>
  obtain ⟨k, x⟩ := p
  obtain ⟨e1, e2, e3, e4⟩ := h.of_key hf
  obtain ⟨hk, g1, _, _⟩ := fx_some hf
  have hp := perm_front hk
  rw [g1] at hp
  dsimp only
  refine ⟨by rw [e2], ⟨h.ok.front hf rfl (h.ok.ds x (fx_mem hf)) (h.ok.pn x (fx_mem hf)), fun y hy => h.data y (hp.mem_iff.1 hy), fun j hj => ((hp.map (·.key)).mem_iff).2 (h.all j hj)⟩, hp.countP_eq _, rfl, by omega⟩
 | none =>
  obtain ⟨M, hr, hs, hc⟩ := h.room hn
  have hd : d i = false := by
   cases hd : d i with
   | false => rfl
   | true => exact absurd (h.all i hd) (fx_none_iff.1 hf)
  dsimp only
  rw [if_neg (by simp), hr]
  dsimp only
  rw [hH hd]
  refine ⟨rfl, ⟨h.ok.fresh hi hf hr ht false (by omega), fun y hy => ?_, fun j hj => ?_⟩, ?_, rfl, Nat.le_refl _⟩
  ·rcases List.mem_cons.1 hy with rfl | hy
   ·exact ⟨rfl, hd.symm, rfl⟩
   ·exact h.data y (hs.subset hy)
  ·obtain ⟨y, hy, rfl⟩ := List.mem_map.1 (h.all j hj)
   have := h.data y hy
   exact List.mem_map.2 ⟨y, List.mem_cons_of_mem _ (room_touched hr hy (by rw [this.2.1]; exact hj)), rfl⟩
  ·show List.countP _ (_ :: M) = _
   rw [List.countP_cons_of_neg (by simp)]
   exact hc
theorem Kc.put (h : Kc C t d) (i : Int) (hi : -9223372036854775808 <= i /\ i <= 9223372036854775807) (hn : C.nd < C.most) (s : ByteArray) (hs : s.size = 256) :
  (C.put i s).1 = 0 /\ Kc (C.put i s).2 (fun j => if j = i then s else t j) (fun j => if j = i then true else d j) /\ (C.put i s).2.nd = (if d i = true then C.nd else C.nd + 1) /\ (C.put i s).2.most = C.most /\ (C.put i s).2.misses = C.misses := by
 unfold CS.put
 rw [if_neg (by omega)]
 cases hf : fx C.L i with
 | some p =>
  obtain ⟨k, x⟩ := p
  obtain ⟨e1, e2, e3, e4⟩ := h.of_key hf
  obtain ⟨hk, g1, _, _⟩ := fx_some hf
  have hp := perm_front hk
  rw [g1] at hp
  have hne : ∀ y ∈ C.L.eraseIdx k, y.key ≠ i := fun y hy e => not_mem_erase h.ok.nodup hf (e ▸ List.mem_map.2 ⟨y, hy, rfl⟩)
  dsimp only
  refine ⟨rfl, ⟨h.ok.front hf rfl (by dsimp; omega) (by dsimp; omega), fun y hy => ?_, fun j hj => ?_⟩, ?_, rfl, rfl⟩
  ·rcases List.mem_cons.1 hy with rfl | hy
   ·dsimp only
    rw [e1, if_pos rfl, if_pos rfl]
    exact ⟨rfl, rfl, e4⟩
   ·rw [if_neg (hne y hy), if_neg (hne y hy)]
    exact h.data y (mem_erase hy)
  ·by_cases e : j = i
   ·exact List.mem_map.2 ⟨_, List.mem_cons_self, by dsimp only; rw [e1, e]⟩
   ·rw [if_neg e] at hj
    obtain ⟨y, hy, rfl⟩ := List.mem_map.1 (h.all j hj)
    rcases List.mem_cons.1 (hp.mem_iff.2 hy) with rfl | hy
    ·exact absurd e1 e
    ·exact List.mem_map.2 ⟨y, List.mem_cons_of_mem _ hy, rfl⟩
  ·have hc := hp.countP_eq (·.dirty)
   show List.countP _ (_ :: _) = _
   rw [List.countP_cons_of_pos (by rfl)]
   unfold CS.nd
   rw [<- hc, <- e3]
   cases hx : x.dirty with
   | true => rw [List.countP_cons_of_pos (by exact hx)]; simp
   | false => rw [List.countP_cons_of_neg (by rw [hx]; simp)]; simp
 | none =>
  obtain ⟨M, hr, hsb, hc⟩ := h.room hn
  have hni := fx_none_iff.1 hf
  have hd : d i = false := by
   cases hd : d i with
   | false => rfl
   | true => exact absurd (h.all i hd) hni
  have hne : ∀ y ∈ M, y.key ≠ i := fun y hy e => hni (e ▸ List.mem_map.2 ⟨y, hsb.subset hy, rfl⟩)
  dsimp only
  rw [hr]
  dsimp only
  refine ⟨rfl, ⟨h.ok.fresh hi hf hr (by omega) true h.ok.ms, fun y hy => ?_, fun j hj => ?_⟩, ?_, rfl, rfl⟩
  ·rcases List.mem_cons.1 hy with rfl | hy
   ·dsimp only
    rw [if_pos rfl, if_pos rfl]
    exact ⟨rfl, rfl, rfl⟩
   ·rw [if_neg (hne y hy), if_neg (hne y hy)]
    exact h.data y (hsb.subset hy)
  ·by_cases e : j = i
   ·exact List.mem_map.2 ⟨_, List.mem_cons_self, e.symm⟩
   ·rw [if_neg e] at hj
    obtain ⟨y, hy, rfl⟩ := List.mem_map.1 (h.all j hj)
    have := h.data y hy
    exact List.mem_map.2 ⟨y, List.mem_cons_of_mem _ (room_touched hr hy (by rw [this.2.1]; exact hj)), rfl⟩
  ·show List.countP _ (_ :: M) = _
   rw [List.countP_cons_of_pos (by rfl), hd, hc]
   simp
theorem Kc.clean (h : Kc C t d) : Kc C.clean t (fun _ => false) /\ C.clean.nd = 0 /\ C.clean.most = C.most /\ C.clean.misses = C.misses := by
 refine ⟨⟨h.ok.clean, fun y hy => ?_, fun j hj => by cases hj⟩, ?_, rfl, rfl⟩
 ·obtain ⟨x, hx, rfl⟩ := List.mem_map.1 hy
  obtain ⟨h1, _, h3⟩ := h.data x hx
  exact ⟨h1, rfl, h3⟩
 ·unfold CS.nd CS.clean
  rw [List.countP_map]
  exact List.countP_eq_zero.2 fun x _ => by simp
theorem Kc.drop (h : Kc C t d) (H : Int -> ByteArray) (hH : ∀ i, d i = false -> H i = t i) : Kc C.drop H (fun _ => false) /\ C.drop.nd = 0 /\ C.drop.most = C.most /\ C.drop.misses = C.misses := by
 refine ⟨⟨h.ok.drop, fun y hy => ?_, fun j hj => by cases hj⟩, ?_, rfl, rfl⟩
 ·obtain ⟨hy1, hy2⟩ := List.mem_filter.1 hy
  obtain ⟨h1, h2, h3⟩ := h.data y hy1
  have hd : y.dirty = false := by simpa using hy2
  exact ⟨by rw [h1, hH _ (by rw [<- h2]; exact hd)], hd, h3⟩
 ·exact List.countP_eq_zero.2 fun x hx => by
   have := (List.mem_filter.1 hx).2
   simpa using this
theorem Kc.dirty (h : Kc C t d) : Rise C.dirty /\ ∀ x, x ∈ C.dirty ↔ d x.1 = true /\ x.2 = t x.1 := by
 refine ⟨C.dirty_rise h.ok.nodup, fun x => ?_⟩
 rw [C.dirty_perm.mem_iff]
 unfold dls
 constructor
 ·intro hx
  obtain ⟨y, hy, rfl⟩ := List.mem_map.1 hx
  obtain ⟨hy1, hy2⟩ := List.mem_filter.1 hy
  obtain ⟨h1, h2, _⟩ := h.data y hy1
  exact ⟨by rw [<- h2]; exact hy2, h1⟩
 ·rintro ⟨h1, h2⟩
  obtain ⟨y, hy, e⟩ := List.mem_map.1 (h.all x.1 h1)
  obtain ⟨g1, g2, _⟩ := h.data y hy
  refine List.mem_map.2 ⟨y, List.mem_filter.2 ⟨hy, by rw [g2, e]; exact h1⟩, ?_⟩
  exact Prod.ext e (by dsimp only; rw [g1, e, h2])
theorem Kc.count (h : Kc C t d) (n : Nat) (hd : ∀ i, d i = true -> 0 <= i /\ i < n) : C.nd = (List.range n).countP fun i : Nat => d (i : Int) := by
 obtain ⟨hr, hm⟩ := h.dirty
 rw [<- nd_dirty, List.countP_eq_length_filter]
 have hp : (C.dirty.map fun x => x.1).Perm (((List.range n).filter fun i : Nat => d (i : Int)).map fun i : Nat => (i : Int)) := by
  refine (List.perm_ext_iff_of_nodup ?_ ?_).2 fun i => ?_
  ·refine (List.pairwise_map.2 ?_)
   exact hr.imp fun h => by omega
  ·refine List.pairwise_map.2 ?_
   exact (List.nodup_range.sublist List.filter_sublist).imp fun h => by omega
  ·constructor
   ·intro hi
    obtain ⟨x, hx, rfl⟩ := List.mem_map.1 hi
    have h1 := ((hm x).1 hx).1
    obtain ⟨g1, g2⟩ := hd _ h1
    refine List.mem_map.2 ⟨x.1.toNat, List.mem_filter.2 ⟨List.mem_range.2 (by omega), ?_⟩, by omega⟩
    rw [show ((x.1.toNat : Nat) : Int) = x.1 by omega]; exact h1
   ·intro hi
    obtain ⟨k, hk, rfl⟩ := List.mem_map.1 hi
    have h1 := (List.mem_filter.1 hk).2
    exact List.mem_map.2 ⟨((k : Int), t k), (hm _).2 ⟨h1, rfl⟩, rfl⟩
 have := hp.length_eq
 rw [List.length_map, List.length_map] at this
 exact this
theorem Kc.new (m : Nat) (h1 : 1 <= m) (h2 : m <= 1024) (t : Int -> ByteArray) : Kc ⟨[], m, 0⟩ t (fun _ => false) /\ CS.nd ⟨[], m, 0⟩ = 0 :=
 ⟨⟨⟨by simp [keys], by simp, h1, h2, by simp, by simp, by simp, by simp⟩, by simp, by simp⟩, rfl⟩
end
end Go.Proofs.YthambopnmhkeeaaGreat.Ca
