/- A cache in plain lists: what each call answers and leaves; nothing of the program is spoken of here. -/
import Derived.Test.YteeoglfgilabaaaRows

namespace Go.Proofs.Yteeoglfgilabaaa

/-- What is kept of a block. -/
structure Kp where
  key : Int
  data : ByteArray
  dirty : Bool
  pins : Nat
/-- A cache. -/
structure CS where
  L : List Kp
  most : Nat
  misses : Nat

/-- Where a block stands, and what is kept of it. -/
def fx : List Kp → Int → Option (Nat × Kp)
  | [], _ => none
  | x :: r, i => if x.key = i then some (0, x) else (fx r i).map fun p => (p.1 + 1, p.2)
/-- May it go? -/
def Kp.free (x : Kp) : Bool := !x.dirty && x.pins == 0
/-- The last that may go. -/
def lf : List Kp → Option Nat
  | [] => none
  | x :: r => match lf r with
    | some k => some (k + 1)
    | none => if x.free then some 0 else none
def room (L : List Kp) (most : Nat) : Option (List Kp) := if L.length < most then some L else (lf L).map fun k => L.eraseIdx k
def CS.get (C : CS) (i : Int) (told : ByteArray) (e : Int) : (ByteArray × Int) × CS :=
  match fx C.L i with
  | some (k, x) => ((x.data, 0), { C with L := x :: C.L.eraseIdx k })
  | none => if e ≠ 0 then ((⟨#[]⟩, e), C) else match room C.L C.most with
    | none => ((⟨#[]⟩, 14), C)
    | some L => ((told, 0), { C with L := ⟨i, told, false, 0⟩ :: L, misses := C.misses + 1 })
def CS.put (C : CS) (i : Int) (s : ByteArray) : Int × CS :=
  if s.size ≠ 256 then (3, C) else match fx C.L i with
  | some (k, x) => (0, { C with L := { x with data := s, dirty := true } :: C.L.eraseIdx k })
  | none => match room C.L C.most with
    | none => (14, C)
    | some L => (0, { C with L := ⟨i, s, true, 0⟩ :: L })
def CS.pin (C : CS) (i : Int) : Int × CS :=
  match fx C.L i with
  | some (k, x) => (0, { C with L := C.L.set k { x with pins := x.pins + 1 } })
  | none => (10, C)
def CS.unpin (C : CS) (i : Int) : Int × CS :=
  match fx C.L i with
  | some (k, x) => if x.pins = 0 then (14, C) else (0, { C with L := C.L.set k { x with pins := x.pins - 1 } })
  | none => (10, C)
def CS.clean (C : CS) : CS := { C with L := C.L.map fun x => { x with dirty := false } }
def CS.drop (C : CS) : CS := { C with L := C.L.filter fun x => !x.dirty }
/-- Among dirty ones, by rising numbers. -/
def ins (x : Int × ByteArray) : List (Int × ByteArray) → List (Int × ByteArray)
  | [] => [x]
  | y :: r => if y.1 < x.1 then y :: ins x r else x :: y :: r
def dls (L : List Kp) : List (Int × ByteArray) := (L.filter fun x => x.dirty).map fun x => (x.key, x.data)
def CS.dirty (C : CS) : List (Int × ByteArray) := (dls C.L).foldl (fun o x => ins x o) []
def keys (L : List Kp) : List Int := L.map fun x => x.key

/-- What is always so. -/
structure CS.Ok (C : CS) : Prop where
  nodup : (keys C.L).Nodup
  len : C.L.length ≤ C.most
  m0 : 1 ≤ C.most
  m1 : C.most ≤ 1024
  ms : C.misses ≤ 1000000
  wf : ∀ x ∈ C.L, -9223372036854775808 ≤ x.key ∧ x.key ≤ 9223372036854775807
  ds : ∀ x ∈ C.L, x.data.size ≤ 1000000
  pn : ∀ x ∈ C.L, x.pins ≤ 1000000

theorem fx_some {L : List Kp} {i : Int} {k : Nat} {x : Kp} (h : fx L i = some (k, x)) : ∃ hk : k < L.length, L[k] = x ∧ x.key = i ∧ ∀ j (hj : j < k), (L[j]'(by omega)).key ≠ i := by
  induction L generalizing k with
  | nil => cases h
  | cons y r ih =>
    unfold fx at h
    split at h
    · rename_i e
      simp at h
      obtain ⟨rfl, rfl⟩ := h
      exact ⟨by simp, rfl, e, fun j hj => absurd hj (Nat.not_lt_zero _)⟩
    · rename_i e
      simp only [Option.map_eq_some_iff, Prod.mk.injEq] at h
      obtain ⟨⟨k', x'⟩, h', rfl, rfl⟩ := h
      obtain ⟨hk, h1, h2, h3⟩ := ih h'
      refine ⟨by simpa using hk, by simpa using h1, h2, fun j hj => ?_⟩
      cases j with
      | zero => exact e
      | succ j => simpa using h3 j (by omega)
theorem fx_none {L : List Kp} {i : Int} (h : fx L i = none) : ∀ x ∈ L, x.key ≠ i := by
  induction L with
  | nil => intro x hx; cases hx
  | cons y r ih =>
    unfold fx at h
    split at h
    · cases h
    · rename_i e
      simp only [Option.map_eq_none_iff] at h
      intro x hx
      rcases List.mem_cons.1 hx with rfl | hx
      · exact e
      · exact ih h x hx
theorem fx_mem {L : List Kp} {i : Int} {k : Nat} {x : Kp} (h : fx L i = some (k, x)) : x ∈ L := by
  obtain ⟨hk, h1, _⟩ := fx_some h
  exact h1 ▸ List.getElem_mem hk
/-- Found by what it is. -/
theorem fx_of {L : List Kp} (hn : (keys L).Nodup) {k : Nat} (hk : k < L.length) : fx L L[k].key = some (k, L[k]) := by
  induction L generalizing k with
  | nil => cases hk
  | cons y r ih =>
    obtain ⟨h1, h2⟩ := List.nodup_cons.1 (show (y.key :: keys r).Nodup from hn)
    cases k with
    | zero => unfold fx; simp
    | succ j =>
      have hj : j < r.length := by simpa using hk
      have hne : y.key ≠ r[j].key := fun e => h1 (by rw [e]; exact List.mem_map.2 ⟨_, List.getElem_mem hj, rfl⟩)
      unfold fx
      simp only [List.getElem_cons_succ]
      rw [if_neg hne, ih h2 hj]
      rfl
theorem idx_key {L : List Kp} {i : Int} {k : Nat} {x : Kp} (h : fx L i = some (k, x)) : (keys L).idxOf i = k := by
  induction L generalizing k with
  | nil => cases h
  | cons y r ih =>
    unfold fx at h
    unfold keys
    rw [List.map_cons, List.idxOf_cons]
    split at h
    · rename_i e
      simp at h
      obtain ⟨rfl, rfl⟩ := h
      simp [e]
    · rename_i e
      simp only [Option.map_eq_some_iff, Prod.mk.injEq] at h
      obtain ⟨⟨k', x'⟩, h', rfl, rfl⟩ := h
      have := ih h'
      unfold keys at this
      have e' : (y.key == i) = false := beq_eq_false_iff_ne.2 e
      rw [e']; simp [this]
theorem fx_none_iff {L : List Kp} {i : Int} : fx L i = none ↔ i ∉ keys L := by
  constructor
  · intro h hm
    obtain ⟨x, hx, e⟩ := List.mem_map.1 hm
    exact fx_none h x hx e
  · intro h
    cases hf : fx L i with
    | none => rfl
    | some p =>
      obtain ⟨k, x⟩ := p
      obtain ⟨hk, h1, h2, _⟩ := fx_some hf
      exact absurd (List.mem_map.2 ⟨x, fx_mem hf, h2⟩) h

theorem lf_some {L : List Kp} {k : Nat} (h : lf L = some k) : ∃ hk : k < L.length, L[k].free = true ∧ ∀ j (hj : j < L.length), k < j → L[j].free = false := by
  induction L generalizing k with
  | nil => cases h
  | cons y r ih =>
    unfold lf at h
    cases hr : lf r with
    | some m =>
      rw [hr] at h
      simp at h
      subst h
      obtain ⟨hk, h1, h2⟩ := ih hr
      refine ⟨by simpa using hk, by simpa using h1, fun j hj hm => ?_⟩
      cases j with
      | zero => omega
      | succ j => simpa using h2 j (by simpa using hj) (by omega)
    | none =>
      rw [hr] at h
      simp only [Option.ite_none_right_eq_some, Option.some.injEq] at h
      obtain ⟨h, rfl⟩ := h
      refine ⟨by simp, h, fun j hj hm => ?_⟩
      cases j with
      | zero => omega
      | succ j =>
        have hj' : j < r.length := by simpa using hj
        have : ∀ (s : List Kp), lf s = none → ∀ x ∈ s, x.free = false := by
          intro s
          induction s with
          | nil => intro _ x hx; cases hx
          | cons z t iht =>
            intro hs x hx
            unfold lf at hs
            cases ht : lf t with
            | some m => rw [ht] at hs; cases hs
            | none =>
              rw [ht] at hs
              simp only at hs
              rcases List.mem_cons.1 hx with rfl | hx
              · cases hf : x.free
                · rfl
                · rw [hf] at hs; simp at hs
              · exact iht ht x hx
        simpa using this r hr _ (List.getElem_mem hj')
theorem lf_none {L : List Kp} (h : lf L = none) : ∀ x ∈ L, x.free = false := by
  induction L with
  | nil => intro x hx; cases hx
  | cons y r ih =>
    intro x hx
    unfold lf at h
    cases ht : lf r with
    | some m => rw [ht] at h; cases h
    | none =>
      rw [ht] at h
      simp only at h
      rcases List.mem_cons.1 hx with rfl | hx
      · cases hf : x.free
        · rfl
        · rw [hf] at h; simp at h
      · exact ih ht x hx
theorem lf_is {L : List Kp} {k : Nat} (hk : k < L.length) (h1 : L[k].free = true) (h2 : ∀ j (hj : j < L.length), k < j → L[j].free = false) : lf L = some k := by
  cases h : lf L with
  | none => have := lf_none h _ (List.getElem_mem hk); rw [this] at h1; cases h1
  | some m =>
    obtain ⟨hm, g1, g2⟩ := lf_some h
    rcases Nat.lt_trichotomy m k with hlt | rfl | hlt
    · have := g2 k hk hlt; rw [this] at h1; cases h1
    · rfl
    · have := h2 m hm hlt; rw [this] at g1; cases g1
theorem lf_is_none {L : List Kp} (h : ∀ j (hj : j < L.length), L[j].free = false) : lf L = none := by
  cases hl : lf L with
  | none => rfl
  | some m => obtain ⟨hm, g1, _⟩ := lf_some hl; rw [h m hm] at g1; cases g1

theorem keys_erase (L : List Kp) (k : Nat) : keys (L.eraseIdx k) = (keys L).eraseIdx k := by
  unfold keys
  induction L generalizing k with
  | nil => rfl
  | cons y r ih => cases k with
    | zero => rfl
    | succ j => simp [ih]
theorem perm_front {α : Type} {L : List α} {k : Nat} (hk : k < L.length) : (L[k] :: L.eraseIdx k).Perm L := by
  induction L generalizing k with
  | nil => cases hk
  | cons y r ih =>
    cases k with
    | zero => exact List.Perm.refl _
    | succ j =>
      have hj : j < r.length := by simpa using hk
      simp only [List.getElem_cons_succ, List.eraseIdx_cons_succ]
      exact (List.Perm.swap _ _ _).trans ((ih hj).cons _)
theorem nodup_erase {L : List Kp} (h : (keys L).Nodup) (k : Nat) : (keys (L.eraseIdx k)).Nodup := by
  rw [keys_erase]; exact h.sublist (List.eraseIdx_sublist _ _)
theorem mem_erase {L : List Kp} {k : Nat} {x : Kp} (h : x ∈ L.eraseIdx k) : x ∈ L := (List.eraseIdx_sublist _ _).subset h
theorem keys_set {L : List Kp} {k : Nat} (hk : k < L.length) {y : Kp} (h : y.key = L[k].key) : keys (L.set k y) = keys L := by
  unfold keys
  rw [List.map_set, h]
  have : (L.map fun x => x.key)[k]'(by simpa using hk) = L[k].key := by simp
  rw [← this, List.set_getElem_self]
/-- Behind the erasure of where a block stands it is not there. -/
theorem not_mem_erase {L : List Kp} (hn : (keys L).Nodup) {i : Int} {k : Nat} {x : Kp} (h : fx L i = some (k, x)) : i ∉ keys (L.eraseIdx k) := by
  obtain ⟨hk, h1, h2, _⟩ := fx_some h
  have hp : (keys (L[k] :: L.eraseIdx k)).Nodup := ((perm_front hk).map _).nodup_iff.2 hn
  have := (List.nodup_cons.1 (show (L[k].key :: keys (L.eraseIdx k)).Nodup from hp)).1
  rwa [h1, h2] at this

theorem room_len {L M : List Kp} {most : Nat} (hm : 1 ≤ most) (hl : L.length ≤ most) (h : room L most = some M) : M.length < most := by
  unfold room at h
  split at h
  · cases h; assumption
  · simp only [Option.map_eq_some_iff] at h
    obtain ⟨k, hk, rfl⟩ := h
    obtain ⟨hk, _⟩ := lf_some hk
    rw [List.length_eraseIdx]
    split <;> omega
theorem room_sub {L M : List Kp} {most : Nat} (h : room L most = some M) : M.Sublist L := by
  unfold room at h
  split at h
  · cases h; exact List.Sublist.refl _
  · simp only [Option.map_eq_some_iff] at h
    obtain ⟨k, hk, rfl⟩ := h
    exact List.eraseIdx_sublist _ _

section
variable {C : CS}
/-- One stands first that was there, changed or not. -/
theorem CS.Ok.front (ok : C.Ok) {i : Int} {k : Nat} {x : Kp} (h : fx C.L i = some (k, x)) {y : Kp} (hy : y.key = x.key) (hd : y.data.size ≤ 1000000) (hp : y.pins ≤ 1000000) : ({ C with L := y :: C.L.eraseIdx k } : CS).Ok := by
  obtain ⟨hk, h1, h2, _⟩ := fx_some h
  have hm := fx_mem h
  refine ⟨?_, ?_, ok.m0, ok.m1, ok.ms, ?_, ?_, ?_⟩
  · show (y.key :: keys (C.L.eraseIdx k)).Nodup
    rw [hy, h2]
    exact List.nodup_cons.2 ⟨not_mem_erase ok.nodup h, nodup_erase ok.nodup k⟩
  · show (y :: C.L.eraseIdx k).length ≤ C.most
    have := ok.len
    rw [List.length_cons, List.length_eraseIdx]
    split <;> omega
  · intro z hz
    rcases List.mem_cons.1 hz with rfl | hz
    · rw [hy]; exact ok.wf x hm
    · exact ok.wf z (mem_erase hz)
  · intro z hz
    rcases List.mem_cons.1 hz with rfl | hz
    · exact hd
    · exact ok.ds z (mem_erase hz)
  · intro z hz
    rcases List.mem_cons.1 hz with rfl | hz
    · exact hp
    · exact ok.pn z (mem_erase hz)
/-- One stands first that was not there. -/
theorem CS.Ok.fresh (ok : C.Ok) {i : Int} (hi : -9223372036854775808 ≤ i ∧ i ≤ 9223372036854775807) (h : fx C.L i = none) {M : List Kp} (hr : room C.L C.most = some M) {s : ByteArray} (hs : s.size ≤ 1000000) (d : Bool) {m : Nat} (hm : m ≤ 1000000) :
    ({ C with L := ⟨i, s, d, 0⟩ :: M, misses := m } : CS).Ok := by
  have hsub := room_sub hr
  refine ⟨?_, ?_, ok.m0, ok.m1, hm, ?_, ?_, ?_⟩
  · show (i :: keys M).Nodup
    exact List.nodup_cons.2 ⟨fun hm => fx_none_iff.1 h ((hsub.map _).subset hm), ok.nodup.sublist (hsub.map _)⟩
  · show (_ :: M).length ≤ C.most
    have := room_len ok.m0 ok.len hr
    simp only [List.length_cons]; omega
  · intro z hz
    rcases List.mem_cons.1 hz with rfl | hz
    · exact hi
    · exact ok.wf z (hsub.subset hz)
  · intro z hz
    rcases List.mem_cons.1 hz with rfl | hz
    · exact hs
    · exact ok.ds z (hsub.subset hz)
  · intro z hz
    rcases List.mem_cons.1 hz with rfl | hz
    · exact Nat.zero_le _
    · exact ok.pn z (hsub.subset hz)
theorem CS.Ok.set (ok : C.Ok) {i : Int} {k : Nat} {x : Kp} (h : fx C.L i = some (k, x)) {y : Kp} (hy : y.key = x.key) (hd : y.data.size ≤ 1000000) (hp : y.pins ≤ 1000000) : ({ C with L := C.L.set k y } : CS).Ok := by
  obtain ⟨hk, h1, h2, _⟩ := fx_some h
  have hm := fx_mem h
  refine ⟨?_, by simpa using ok.len, ok.m0, ok.m1, ok.ms, ?_, ?_, ?_⟩
  · show (keys (C.L.set k y)).Nodup
    rw [keys_set hk (by rw [hy, h1])]; exact ok.nodup
  · intro z hz
    rcases List.mem_or_eq_of_mem_set hz with hz | rfl
    · exact ok.wf z hz
    · rw [hy]; exact ok.wf x hm
  · intro z hz
    rcases List.mem_or_eq_of_mem_set hz with hz | rfl
    · exact ok.ds z hz
    · exact hd
  · intro z hz
    rcases List.mem_or_eq_of_mem_set hz with hz | rfl
    · exact ok.pn z hz
    · exact hp
theorem CS.Ok.clean (ok : C.Ok) : C.clean.Ok := by
  have e : keys C.clean.L = keys C.L := by unfold keys CS.clean; simp [Function.comp_def]
  refine ⟨e ▸ ok.nodup, by simpa [CS.clean] using ok.len, ok.m0, ok.m1, ok.ms, ?_, ?_, ?_⟩ <;>
  · intro z hz
    obtain ⟨x, hx, rfl⟩ := List.mem_map.1 hz
    first | exact ok.wf x hx | exact ok.ds x hx | exact ok.pn x hx
theorem CS.Ok.drop (ok : C.Ok) : C.drop.Ok := by
  have hs : C.drop.L.Sublist C.L := List.filter_sublist
  exact ⟨ok.nodup.sublist (hs.map _), Nat.le_trans hs.length_le ok.len, ok.m0, ok.m1, ok.ms, fun z hz => ok.wf z (hs.subset hz), fun z hz => ok.ds z (hs.subset hz), fun z hz => ok.pn z (hs.subset hz)⟩
end

/-! Dirty ones, by rising numbers. -/
theorem ins_perm (x : Int × ByteArray) (l : List (Int × ByteArray)) : (ins x l).Perm (x :: l) := by
  induction l with
  | nil => exact List.Perm.refl _
  | cons y r ih =>
    unfold ins
    split
    · exact (ih.cons y).trans (List.Perm.swap _ _ _)
    · exact List.Perm.refl _
theorem fold_perm (l o : List (Int × ByteArray)) : (l.foldl (fun o x => ins x o) o).Perm (l ++ o) := by
  induction l generalizing o with
  | nil => exact List.Perm.refl _
  | cons x r ih =>
    rw [List.foldl_cons]
    refine (ih _).trans (((ins_perm x o).append_left r).trans ?_)
    exact List.perm_middle
def Rise (l : List (Int × ByteArray)) : Prop := l.Pairwise fun a b => a.1 < b.1
theorem ins_rise (x : Int × ByteArray) (l : List (Int × ByteArray)) (h : Rise l) (hx : ∀ y ∈ l, y.1 ≠ x.1) : Rise (ins x l) := by
  induction l with
  | nil => exact List.pairwise_singleton _ _
  | cons y r ih =>
    obtain ⟨h1, h2⟩ := List.pairwise_cons.1 h
    unfold ins
    split
    · rename_i hlt
      refine List.pairwise_cons.2 ⟨fun z hz => ?_, ih h2 (fun z hz => hx z (by simp [hz]))⟩
      rcases List.mem_cons.1 ((ins_perm x r).mem_iff.1 hz) with rfl | hz
      · exact hlt
      · exact h1 z hz
    · rename_i hge
      have hy : x.1 < y.1 := by have := hx y (by simp); omega
      refine List.pairwise_cons.2 ⟨fun z hz => ?_, h⟩
      rcases List.mem_cons.1 hz with rfl | hz
      · exact hy
      · have := h1 z hz; omega
theorem fold_rise (l o : List (Int × ByteArray)) (ho : Rise o) (hn : ((l ++ o).map fun x => x.1).Nodup) : Rise (l.foldl (fun o x => ins x o) o) := by
  induction l generalizing o with
  | nil => exact ho
  | cons x r ih =>
    rw [List.foldl_cons]
    have hp : (r ++ ins x o).Perm ((x :: r) ++ o) := ((ins_perm x o).append_left r).trans List.perm_middle
    refine ih _ (ins_rise x o ho fun y hy e => ?_) ((hp.map _).nodup_iff.2 hn)
    have h1 : x.1 ∉ (r ++ o).map fun x => x.1 := (List.nodup_cons.1 (show (x.1 :: (r ++ o).map fun x => x.1).Nodup from hn)).1
    exact h1 (List.mem_map.2 ⟨y, List.mem_append.2 (.inr hy), e⟩)
theorem dls_nodup {L : List Kp} (h : (keys L).Nodup) : ((dls L).map fun x => x.1).Nodup := by
  unfold dls
  rw [List.map_map]
  exact (h.sublist ((List.filter_sublist (p := fun x : Kp => x.dirty) (l := L)).map _))
theorem CS.dirty_perm (C : CS) : C.dirty.Perm (dls C.L) := by have := fold_perm (dls C.L) []; rw [List.append_nil] at this; exact this
theorem CS.dirty_rise {C : CS} (h : (keys C.L).Nodup) : Rise C.dirty := fold_rise _ [] List.Pairwise.nil (by simpa using dls_nodup h)
/-- Rising, there is but one order. -/
theorem rise_eq {l m : List (Int × ByteArray)} (hp : l.Perm m) (hl : Rise l) (hm : Rise m) : l = m :=
  hp.eq_of_pairwise (fun a b _ _ h1 h2 => by omega) hl hm
end Go.Proofs.Yteeoglfgilabaaa
