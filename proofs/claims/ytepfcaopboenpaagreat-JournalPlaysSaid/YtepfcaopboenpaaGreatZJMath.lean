/- Journals in plain numbers and lists: what a slot is, what Format, Open, Commit and Checkpoint do with a device; nothing of the program is walked here. -/
import Derived.Test.YtepfcaopboenpaaGreatZAt
import Derived.Test.YtepfcaopboenpaaGreatZSettle
import Derived.Test.YtepfcaopboenpaaGreatZWFix

namespace Go.Proofs.YtepfcaopboenpaaGreat
open Go.RowKit
open Fr (bs fixL nmAt packL chkL chk unp hd)

/-- A journal: the slot that counts (its number e, its s, its log, its place p), its block, the next frame's number, the blocks of the frames. -/
structure JS where
  e : Nat
  s : Nat
  log : Nat
  p : Nat
  side : Nat
  next : Nat
  full : Nat

/-- What is always so of a journal on a device of n blocks. -/
structure JS.Ok (J : JS) (n : Nat) : Prop where
  l0 : 50 ≤ J.log
  l1 : J.log + 3 ≤ n
  pl : J.p < J.log
  si : J.side ≤ 1
  fu : J.full ≤ J.log
  e64 : J.e < 18446744073709551616
  s64 : J.s < 18446744073709551616
  n64 : J.next < 18446744073709551616

def JS.pos (J : JS) (i : Nat) : Nat := 2 + (J.p + J.full + i) % J.log
def JS.home (J : JS) : Nat := 2 + J.log
def JS.left (J : JS) : Nat := J.log - J.full
def JS.grow (J : JS) (n : Nat) : JS := { J with next := (J.next + 1) % 18446744073709551616, full := J.full + n }

/-- Half of a slot's block; the block. -/
def halfL (e s log p : Nat) : List UInt8 := [67, 68, 88, 83] ++ (fixL (e % 4294967296) ++ (fixL (e / 4294967296) ++ (fixL (s % 4294967296) ++ (fixL (s / 4294967296) ++ (fixL log ++ (fixL p ++ List.replicate 100 0))))))
def slotB (e s log p : Nat) : ByteArray := bs (halfL e s log p ++ halfL e s log p)
theorem halfL_len (e s log p : Nat) : (halfL e s log p).length = 128 := by
  unfold halfL; simp only [List.length_append, Fr.fixL_len, List.length_replicate, List.length_cons, List.length_nil]
theorem slotB_size (e s log p : Nat) : (slotB e s log p).size = 256 := by
  unfold slotB; rw [Fr.bs_len, List.length_append, halfL_len]

def wideAt (l : List UInt8) (i : Nat) : Nat := nmAt l i + 4294967296 * nmAt l (i + 4)
/-- A block's slot, on a device of n blocks. -/
def rdSlot (t : ByteArray) (n : Nat) : Option (Nat × Nat × Nat × Nat) :=
  let l := t.data.toList
  if 50 ≤ nmAt l 20 ∧ nmAt l 20 + 3 ≤ n ∧ nmAt l 24 < nmAt l 20 ∧ t = slotB (wideAt l 4) (wideAt l 12) (nmAt l 20) (nmAt l 24) then some (wideAt l 4, wideAt l 12, nmAt l 20, nmAt l 24) else none

/-- Writes, in order, up to the first error; and a flush behind them. -/
def DevS.wrs (D : DevS) : List (Int × ByteArray) → Int × DevS
  | [] => (0, D)
  | x :: r => if (D.wr x.1 x.2).1 ≠ 0 then D.wr x.1 x.2 else DevS.wrs (D.wr x.1 x.2).2 r
def DevS.stl (D : DevS) (l : List (Int × ByteArray)) : Int × DevS := if (D.wrs l).1 ≠ 0 then D.wrs l else (D.wrs l).2.fl

theorem DevS.wrs_snoc (D : DevS) (l : List (Int × ByteArray)) (x : Int × ByteArray) (h : (D.wrs l).1 = 0) : D.wrs (l ++ [x]) = (D.wrs l).2.wr x.1 x.2 := by
  induction l generalizing D with
  | nil =>
    show DevS.wrs D [x] = _
    unfold DevS.wrs
    split
    · rfl
    · rename_i h2
      have e : (D.wr x.1 x.2).1 = 0 := by omega
      show (0, _) = D.wr x.1 x.2
      exact Prod.ext e.symm rfl
  | cons y r ih =>
    rw [List.cons_append]
    unfold DevS.wrs at h ⊢
    split at h
    · rename_i h2; exact absurd h h2
    · rename_i h2; rw [if_neg h2, if_neg h2]; exact ih _ h
theorem DevS.wrs_err (D : DevS) (l m : List (Int × ByteArray)) (h : (D.wrs l).1 ≠ 0) : D.wrs (l ++ m) = D.wrs l := by
  induction l generalizing D with
  | nil => exact absurd rfl h
  | cons y r ih =>
    rw [List.cons_append]
    unfold DevS.wrs at h ⊢
    split at h
    · rename_i h2; rw [if_pos h2, if_pos h2]
    · rename_i h2; rw [if_neg h2, if_neg h2]; exact ih _ h
theorem DevS.wrs_append (D : DevS) (l m : List (Int × ByteArray)) (h : (D.wrs l).1 = 0) : D.wrs (l ++ m) = (D.wrs l).2.wrs m := by
  induction l generalizing D with
  | nil => rfl
  | cons y r ih =>
    rw [List.cons_append]
    unfold DevS.wrs at h
    conv => lhs; unfold DevS.wrs
    conv => rhs; arg 1; unfold DevS.wrs
    split at h
    · rename_i h2; exact absurd h h2
    · rename_i h2; rw [if_neg h2, if_neg h2]; exact ih _ h
theorem DevS.wr_len (D : DevS) (i : Int) (s : ByteArray) : (D.wr i s).2.pend.length ≤ D.pend.length + 1 := by
  unfold DevS.wr
  split
  · exact Nat.le_succ _
  · split
    · exact Nat.le_succ _
    · split
      · rw [DevS.tk_pend]; exact Nat.le_succ _
      · simp
theorem DevS.wrs_len (D : DevS) (l : List (Int × ByteArray)) : (D.wrs l).2.pend.length ≤ D.pend.length + l.length := by
  induction l generalizing D with
  | nil => exact Nat.le_refl _
  | cons x r ih =>
    have h := D.wr_len x.1 x.2
    unfold DevS.wrs
    split
    · rw [List.length_cons]; omega
    · have := ih (D.wr x.1 x.2).2; rw [List.length_cons]; omega
theorem DevS.fl_len (D : DevS) : D.fl.2.pend.length ≤ D.pend.length := by
  unfold DevS.fl
  split
  · exact Nat.le_refl _
  · split
    · rw [DevS.tk_pend]; exact Nat.le_refl _
    · exact Nat.zero_le _
theorem DevS.stl_len (D : DevS) (l : List (Int × ByteArray)) : (D.stl l).2.pend.length ≤ D.pend.length + l.length := by
  have h := D.wrs_len l
  have h2 := (D.wrs l).2.fl_len
  unfold DevS.stl
  split <;> omega
theorem DevS.wr_disk (D : DevS) (i : Int) (s : ByteArray) : (D.wr i s).2.disk = D.disk := by
  unfold DevS.wr
  split
  · rfl
  · split
    · rfl
    · split
      · exact DevS.tk_disk D
      · exact DevS.tk_disk D
theorem DevS.wrs_disk (D : DevS) (l : List (Int × ByteArray)) : (D.wrs l).2.disk = D.disk := by
  induction l generalizing D with
  | nil => rfl
  | cons x r ih =>
    unfold DevS.wrs
    split
    · exact D.wr_disk _ _
    · rw [ih, D.wr_disk]
theorem DevS.fl_disk (D : DevS) : D.fl.2.disk.length = D.disk.length := by
  unfold DevS.fl
  split
  · rfl
  · split
    · rw [DevS.tk_disk]
    · simp [laidTo_length]
theorem DevS.stl_disk (D : DevS) (l : List (Int × ByteArray)) : (D.stl l).2.disk.length = D.disk.length := by
  unfold DevS.stl
  split
  · rw [D.wrs_disk]
  · rw [DevS.fl_disk, D.wrs_disk]
theorem DevS.tk_dead (D : DevS) (h : D.tk.1 = true) : D.tk.2.dead = D.dead := by
  unfold DevS.tk at *
  split
  · rfl
  · split
    · rename_i h1 h2; rw [if_neg h1, if_pos h2] at h; cases h
    · rfl
theorem DevS.wr_live (D : DevS) (i : Int) (s : ByteArray) (h : (D.wr i s).1 = 0) : (D.wr i s).2.dead = false := by
  unfold DevS.wr at *
  split
  · rename_i h1; rw [if_pos h1] at h; exact absurd h h1
  · rename_i h1
    rw [if_neg h1] at h
    split
    · rename_i h2; rw [if_pos h2] at h; cases h
    · rename_i h2
      rw [if_neg h2] at h
      split
      · rename_i h3; rw [if_pos h3] at h; cases h
      · rename_i h3
        show D.tk.2.dead = false
        rw [D.tk_dead (by simpa using h3)]
        have h0 : D.ck i = 0 := by simpa using h1
        unfold DevS.ck at h0
        cases hd : D.dead with
        | false => rfl
        | true => rw [hd] at h0; simp at h0
theorem DevS.wrs_live (D : DevS) (l : List (Int × ByteArray)) (hd : D.dead = false) (h : (D.wrs l).1 = 0) : (D.wrs l).2.dead = false := by
  induction l generalizing D with
  | nil => exact hd
  | cons x r ih =>
    unfold DevS.wrs at h ⊢
    split
    · rename_i h1; rw [if_pos h1] at h; exact absurd h h1
    · rename_i h1; rw [if_neg h1] at h; exact ih _ (D.wr_live _ _ (by simpa using h1)) h
theorem DevS.fl_live (D : DevS) (h : D.fl.1 = 0) : D.fl.2.dead = false := by
  unfold DevS.fl at *
  split
  · rename_i h1; rw [if_pos h1] at h; cases h
  · rename_i h1
    rw [if_neg h1] at h
    split
    · rename_i h2; rw [if_pos h2] at h; cases h
    · rename_i h2
      show D.tk.2.dead = false
      rw [D.tk_dead (by simpa using h2)]; simpa using h1
theorem DevS.stl_live (D : DevS) (l : List (Int × ByteArray)) (h : (D.stl l).1 = 0) : (D.stl l).2.dead = false := by
  unfold DevS.stl at *
  split
  · rename_i h1; rw [if_pos h1] at h; exact absurd h h1
  · rename_i h1; rw [if_neg h1] at h; exact DevS.fl_live _ h

/-- Why writes cannot be committed. -/
def JS.chk1 (J : JS) (n : Nat) (x : Int × ByteArray) : Nat := if x.1 < J.home ∨ (n : Int) ≤ x.1 then 2 else if x.2.size ≠ 256 then 3 else 0
def JS.chkL (J : JS) (n : Nat) : List (Int × ByteArray) → Nat
  | [] => 0
  | x :: l => if J.chk1 n x = 0 then JS.chkL J n l else J.chk1 n x
def JS.chk (J : JS) (n : Nat) (l : List (Int × ByteArray)) : Nat := if l.length = 0 ∨ 48 < l.length then 6 else J.chkL n l
def JS.WrOk (J : JS) (n : Nat) (x : Int × ByteArray) : Prop := J.home ≤ x.1 ∧ x.1 < n ∧ x.2.size = 256
theorem JS.chk1_ok (J : JS) (n : Nat) (x : Int × ByteArray) : J.chk1 n x = 0 ↔ J.WrOk n x := by
  unfold JS.chk1 JS.WrOk
  by_cases h : x.1 < J.home ∨ (n : Int) ≤ x.1
  · rw [if_pos h]; constructor
    · intro h2; omega
    · intro h2; omega
  · rw [if_neg h]
    by_cases h2 : x.2.size ≠ 256
    · rw [if_pos h2]; constructor
      · intro h2; omega
      · intro h3; exact absurd h3.2.2 h2
    · rw [if_neg h2]; constructor
      · intro _; exact ⟨by omega, by omega, by omega⟩
      · intro _; rfl
theorem JS.chkL_ok (J : JS) (n : Nat) (l : List (Int × ByteArray)) : J.chkL n l = 0 ↔ ∀ x ∈ l, J.WrOk n x := by
  induction l with
  | nil => simp [JS.chkL]
  | cons x l ih =>
    unfold JS.chkL
    by_cases h : J.chk1 n x = 0
    · rw [if_pos h, ih]
      constructor
      · intro h2 y hy
        rcases List.mem_cons.1 hy with rfl | hy
        · exact (J.chk1_ok n _).1 h
        · exact h2 y hy
      · intro h2 y hy; exact h2 y (List.mem_cons_of_mem _ hy)
    · rw [if_neg h]
      constructor
      · intro h2; exact absurd h2 h
      · intro h2; exact absurd ((J.chk1_ok n x).2 (h2 x (List.mem_cons_self ..))) h
theorem JS.chkL_drop (J : JS) (n : Nat) (l : List (Int × ByteArray)) (k : Nat) (h : k < l.length) (hk : J.chk1 n l[k] = 0) : J.chkL n (l.drop k) = J.chkL n (l.drop (k + 1)) := by
  rw [List.drop_eq_getElem_cons h]; show (if J.chk1 n l[k] = 0 then _ else _) = _; rw [if_pos hk]
theorem JS.chkL_at (J : JS) (n : Nat) (l : List (Int × ByteArray)) (k : Nat) (h : k < l.length) (hk : J.chk1 n l[k] ≠ 0) : J.chkL n (l.drop k) = J.chk1 n l[k] := by
  rw [List.drop_eq_getElem_cons h]; show (if J.chk1 n l[k] = 0 then _ else _) = _; rw [if_neg hk]
theorem JS.chk_ok (J : JS) (n : Nat) (l : List (Int × ByteArray)) : J.chk n l = 0 ↔ 1 ≤ l.length ∧ l.length ≤ 48 ∧ ∀ x ∈ l, J.WrOk n x := by
  unfold JS.chk
  by_cases h : l.length = 0 ∨ 48 < l.length
  · rw [if_pos h]; constructor
    · intro h2; omega
    · intro h2; omega
  · rw [if_neg h, J.chkL_ok]; constructor
    · intro h2; exact ⟨by omega, by omega, h2⟩
    · intro h2; exact h2.2.2

/-- A checkpoint: the error, the device, the journal. -/
def JS.next' (J : JS) : JS := ⟨(J.e + 1) % 18446744073709551616, J.next, J.log, J.pos 0 - 2, 1 - J.side, J.next, 0⟩
def JS.ckp (J : JS) (D : DevS) : Int × DevS × JS :=
  let a := D.stl [(((J.pos 0 : Nat) : Int), noughts)]
  if a.1 ≠ 0 then (a.1, a.2, J) else
  let b := a.2.stl [(((1 - J.side : Nat) : Int), slotB ((J.e + 1) % 18446744073709551616) J.next J.log (J.pos 0 - 2))]
  if b.1 ≠ 0 then (b.1, b.2, J) else (0, b.2, J.next')
/-- What is written of a frame's data, behind its head's place. -/
def JS.dataW (J : JS) (ds : List ByteArray) : List (Int × ByteArray) := ((List.range ds.length).map fun i => (((J.pos (i + 1) : Nat) : Int), ds.getD i ByteArray.empty)) ++ [(((J.pos (ds.length + 1) : Nat) : Int), noughts)]
def JS.addF (J : JS) (D : DevS) (top : ByteArray) (ds : List ByteArray) : Int × DevS × JS :=
  let a := D.stl (J.dataW ds)
  if a.1 ≠ 0 then (a.1, a.2, J) else
  let b := a.2.stl [(((J.pos 0 : Nat) : Int), top)]
  if b.1 ≠ 0 then (b.1, b.2, J) else (0, b.2, J.grow (ds.length + 1))
def JS.commit (J : JS) (D : DevS) (l : List (Int × ByteArray)) : Int × DevS × JS :=
  if J.chk D.disk.length l ≠ 0 then (J.chk D.disk.length l, D, J) else
  let c := if J.left < l.length + 2 then J.ckp D else (0, D, J)
  if c.1 ≠ 0 then c else
  let a := c.2.2.addF c.2.1 (bs (Fr.topL J.next l)) (l.map (·.2))
  if a.1 ≠ 0 then a else ((a.2.1.wrs l).1, (a.2.1.wrs l).2, a.2.2)
/-- The writes of the frame behind those that are there. -/
def JS.frameAt (J : JS) (D : DevS) : List ByteArray := D.rdB (J.pos 0) :: (List.range (nmAt (D.rdB (J.pos 0)).data.toList 12)).map fun i => D.rdB (J.pos (i + 1))
def JS.frameOf (J : JS) (D : DevS) : Option (List (Int × ByteArray)) :=
  if Fr.headB (D.rdB (J.pos 0)).data.toList = true ∧ nmAt (D.rdB (J.pos 0)).data.toList 12 + 1 ≤ J.left ∧ (unp (J.frameAt D)).2.2 = 0 ∧ (unp (J.frameAt D)).1 = J.next ∧ J.chk D.disk.length (unp (J.frameAt D)).2.1 = 0
  then some (unp (J.frameAt D)).2.1 else none
def JS.redoN (J : JS) (D : DevS) : Nat → Int × DevS × JS
  | 0 => (0, D, J)
  | m + 1 => match J.frameOf D with
    | none => (0, D, J)
    | some ws => if (D.wrs ws).1 ≠ 0 then ((D.wrs ws).1, (D.wrs ws).2, J.grow (ws.length + 1)) else JS.redoN (J.grow (ws.length + 1)) (D.wrs ws).2 m
def JS.redo (J : JS) (D : DevS) : Int × DevS × JS := J.redoN D (J.log + 1)
/-- The slot that counts. -/
def slotJ (x : Nat × Nat × Nat × Nat) (i : Nat) : JS := ⟨x.1, x.2.1, x.2.2.1, x.2.2.2, i, x.2.1, 0⟩
def DevS.slotAt (D : DevS) (i : Nat) : Option (Nat × Nat × Nat × Nat) := if i < D.disk.length then rdSlot (D.rdB i) D.disk.length else none
def DevS.find (D : DevS) : Option JS :=
  match D.slotAt 0, D.slotAt 1 with
  | none, none => none
  | some x, none => some (slotJ x 0)
  | none, some y => some (slotJ y 1)
  | some x, some y => if x.1 < y.1 then some (slotJ y 1) else some (slotJ x 0)
def DevS.opn (D : DevS) : Int × DevS × Option JS :=
  if D.dead then (4, D, none) else
  match D.find with
  | none => (10, D, none)
  | some J =>
    let r := J.redo D
    if r.1 ≠ 0 then (r.1, r.2.1, none) else
    let c := r.2.2.ckp r.2.1
    if c.1 ≠ 0 then (c.1, c.2.1, none) else (0, c.2.1, some c.2.2)
def fmtL (log : Nat) : List (Int × ByteArray) := ((List.range (log + 1)).map fun i => (((i + 1 : Nat) : Int), noughts)) ++ [(0, slotB 1 1 log 0)]
def DevS.fmt (D : DevS) (log : Int) : Int × DevS := if log < 50 ∨ (D.disk.length : Int) - 3 < log then (2, D) else D.stl (fmtL log.toNat)
end Go.Proofs.YtepfcaopboenpaaGreat
/- The document's frame and the program's, in plain lists: the same. -/
namespace Go.Proofs.YtepfcaopboenpaaGreat
open Go.RowKit
open Fr (nmAt unp unp_cons formB formB_iff sumB headB headB_iff blocksOf)

/-- The log's blocks behind its frames, as they are read. -/
def JS.readL (J : JS) (D : DevS) (m : Nat) : List ByteArray := (List.range m).map fun i => D.rdB (J.pos i)
theorem readL_succ (J : JS) (D : DevS) (m : Nat) : J.readL D (m + 1) = J.readL D m ++ [D.rdB (J.pos m)] := by unfold JS.readL; rw [List.range_succ, List.map_append]; rfl
theorem readL_len (J : JS) (D : DevS) (m : Nat) : (J.readL D m).length = m := by simp [JS.readL]
def tailL (J : JS) (D : DevS) (m : Nat) : List ByteArray := (List.range m).map fun i => D.rdB (J.pos (i + 1))
theorem readL_cons (J : JS) (D : DevS) (m : Nat) : J.readL D (m + 1) = D.rdB (J.pos 0) :: tailL J D m := by
  unfold JS.readL tailL; rw [List.range_succ_eq_map]; simp
theorem tailL_take (J : JS) (D : DevS) (k m : Nat) (h : k ≤ m) : (tailL J D m).take k = tailL J D k := by
  unfold tailL
  rw [← List.map_take, List.take_range, Nat.min_eq_left h]
theorem tailL_len (J : JS) (D : DevS) (m : Nat) : (tailL J D m).length = m := by simp [tailL]
theorem unp_more (s : ByteArray) (T : List ByteArray) (k : Nat) (h : nmAt s.data.toList 12 ≤ k) (hk : k ≤ T.length) : unp (s :: T.take k) = unp (s :: T) := by
  have e : (T.take k).take (nmAt s.data.toList 12) = T.take (nmAt s.data.toList 12) := by rw [List.take_take, Nat.min_eq_left h]
  have hf : formB s (T.take k) = formB s T := by
    unfold formB
    rw [e, List.length_take, Nat.min_eq_left hk]
    have a1 : decide (nmAt s.data.toList 12 ≤ k) = true := decide_eq_true h
    have a2 : decide (nmAt s.data.toList 12 ≤ T.length) = true := decide_eq_true (by omega)
    rw [a1, a2]
  have hs : sumB s (T.take k) = sumB s T := by unfold sumB; rw [e]
  rw [unp_cons, unp_cons, hf, hs, e]
/-- What the document's frame asks. -/
def fineR (J : JS) (n : Nat) (R : Nat × List (Int × ByteArray) × Nat) : Prop := R.2.2 = 0 ∧ R.1 = J.next ∧ ∀ x ∈ R.2.1, (J.home : Int) ≤ x.1 ∧ x.1 < (n : Int)
instance (J : JS) (n : Nat) (R : Nat × List (Int × ByteArray) × Nat) : Decidable (fineR J n R) := by unfold fineR; infer_instance
theorem unp_ok (s : ByteArray) (T : List ByteArray) (h : (unp (s :: T)).2.2 = 0) : 1 ≤ (unp (s :: T)).2.1.length ∧ (unp (s :: T)).2.1.length ≤ 48 ∧ ∀ x ∈ (unp (s :: T)).2.1, x.2.size = 256 := by
  rw [unp_cons] at h ⊢
  by_cases h1 : formB s T = true
  · rw [if_pos h1] at h ⊢
    by_cases h2 : sumB s T = true
    · rw [if_pos h2]
      obtain ⟨f1, f2, f3⟩ := (formB_iff s T).1 h1
      obtain ⟨_, _, _, g1, g2, _⟩ := (headB_iff _).1 f1
      have hb : (blocksOf s.data.toList).length = nmAt s.data.toList 12 := by simp [blocksOf]
      refine ⟨?_, ?_, fun x hx => f3 x.2 ?_⟩
      · simp only [List.length_zip, hb, List.length_take]; omega
      · simp only [List.length_zip, hb, List.length_take]; omega
      · exact (List.of_mem_zip (a := x.1) (b := x.2) hx).2
    · rw [if_neg h2] at h; cases h
  · rw [if_neg h1] at h; cases h
theorem frame_same (J : JS) (D : DevS) : J.frameOf D = if fineR J D.disk.length (unp (J.readL D (min J.left 49))) then some (unp (J.readL D (min J.left 49))).2.1 else none := by
  by_cases h0 : J.left = 0
  · unfold JS.frameOf
    rw [if_neg (by rintro ⟨_, h, _⟩; omega), h0, if_neg]
    rintro ⟨h, _⟩
    cases h
  · obtain ⟨m, hm⟩ : ∃ m, min J.left 49 = m + 1 := ⟨min J.left 49 - 1, by omega⟩
    rw [hm, readL_cons]
    by_cases hh : headB (D.rdB (J.pos 0)).data.toList = true
    · obtain ⟨_, _, _, g1, g2, _⟩ := (headB_iff _).1 hh
      by_cases hl : nmAt (D.rdB (J.pos 0)).data.toList 12 + 1 ≤ J.left
      · have hfa : J.frameAt D = D.rdB (J.pos 0) :: (tailL J D m).take (nmAt (D.rdB (J.pos 0)).data.toList 12) := by
          rw [tailL_take J D _ m (by omega)]; rfl
        have hu : unp (J.frameAt D) = unp (D.rdB (J.pos 0) :: tailL J D m) := by
          rw [hfa, unp_more _ _ _ (Nat.le_refl _) (by rw [tailL_len]; omega)]
        unfold JS.frameOf
        rw [hu]
        have hiff : (headB (D.rdB (J.pos 0)).data.toList = true ∧ nmAt (D.rdB (J.pos 0)).data.toList 12 + 1 ≤ J.left ∧ (unp (D.rdB (J.pos 0) :: tailL J D m)).2.2 = 0 ∧ (unp (D.rdB (J.pos 0) :: tailL J D m)).1 = J.next ∧ J.chk D.disk.length (unp (D.rdB (J.pos 0) :: tailL J D m)).2.1 = 0) ↔ fineR J D.disk.length (unp (D.rdB (J.pos 0) :: tailL J D m)) := by
          constructor
          · rintro ⟨_, _, a, b, c⟩
            exact ⟨a, b, fun x hx => by obtain ⟨c1, c2, _⟩ := ((J.chk_ok _ _).1 c).2.2 x hx; exact ⟨c1, c2⟩⟩
          · rintro ⟨a, b, c⟩
            obtain ⟨o1, o2, o3⟩ := unp_ok _ _ a
            exact ⟨hh, hl, a, b, (J.chk_ok _ _).2 ⟨o1, o2, fun x hx => ⟨(c x hx).1, (c x hx).2, o3 x hx⟩⟩⟩
        by_cases hc : fineR J D.disk.length (unp (D.rdB (J.pos 0) :: tailL J D m))
        · rw [if_pos hc, if_pos (hiff.2 hc)]
        · rw [if_neg hc, if_neg (fun h => hc (hiff.1 h))]
      · unfold JS.frameOf
        rw [if_neg (by rintro ⟨_, h, _⟩; exact hl h), if_neg]
        rintro ⟨h, _⟩
        rw [unp_cons, if_neg (by rw [formB_iff, tailL_len]; rintro ⟨_, h, _⟩; omega)] at h
        cases h
    · unfold JS.frameOf
      rw [if_neg (by rintro ⟨h, _⟩; exact hh h), if_neg]
      rintro ⟨h, _⟩
      rw [unp_cons, if_neg (by rw [formB_iff]; rintro ⟨h, _⟩; exact hh h)] at h
      cases h
end Go.Proofs.YtepfcaopboenpaaGreat
