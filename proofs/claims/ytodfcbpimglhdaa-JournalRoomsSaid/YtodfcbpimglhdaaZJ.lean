/- Journals in plain numbers and lists: what a slot is, what Format, Open, Commit and Checkpoint do with a device; nothing of the program is walked here. -/
import Derived.Test.YtodfcbpimglhdaaZC
import Derived.Test.YtodfcbpimglhdaaZW
import Derived.Test.YtodfcbpimglhdaaZF
import Derived.Deep.RegionHeld3
import Derived.Deep.RegionWith
import Derived.BigQuiet
import Derived.Deep.QuietTactic

namespace Go.Proofs.Ytodfcbpimglhdaa
open Go.RowKit
open Fr (bs fixL nmAt packL chkL chk unp hd)

/-- A journal: the slot that counts (its number e, its s, its log, its place p), its block, the next frame's number, the blocks of the frames. -/
structure JS where
  e : Nat
  s : Nat
  log : Nat
  p : Nat
  side : Nat
  next : Nat
  full : Nat

/-- What is always so of a journal on a device of n blocks. -/
structure JS.Ok (J : JS) (n : Nat) : Prop where
  l0 : 50 ≤ J.log
  l1 : J.log + 3 ≤ n
  pl : J.p < J.log
  si : J.side ≤ 1
  fu : J.full ≤ J.log
  e64 : J.e < 18446744073709551616
  s64 : J.s < 18446744073709551616
  n64 : J.next < 18446744073709551616

def JS.pos (J : JS) (i : Nat) : Nat := 2 + (J.p + J.full + i) % J.log
def JS.home (J : JS) : Nat := 2 + J.log
def JS.left (J : JS) : Nat := J.log - J.full
def JS.grow (J : JS) (n : Nat) : JS := { J with next := (J.next + 1) % 18446744073709551616, full := J.full + n }

/-- Half of a slot's block; the block. -/
def halfL (e s log p : Nat) : List UInt8 := [67, 68, 88, 83] ++ (fixL (e % 4294967296) ++ (fixL (e / 4294967296) ++ (fixL (s % 4294967296) ++ (fixL (s / 4294967296) ++ (fixL log ++ (fixL p ++ List.replicate 100 0))))))
def slotB (e s log p : Nat) : ByteArray := bs (halfL e s log p ++ halfL e s log p)
theorem halfL_len (e s log p : Nat) : (halfL e s log p).length = 128 := by
  unfold halfL; simp only [List.length_append, Fr.fixL_len, List.length_replicate, List.length_cons, List.length_nil]
theorem slotB_size (e s log p : Nat) : (slotB e s log p).size = 256 := by
  unfold slotB; rw [Fr.bs_len, List.length_append, halfL_len]

def wideAt (l : List UInt8) (i : Nat) : Nat := nmAt l i + 4294967296 * nmAt l (i + 4)
/-- A block's slot, on a device of n blocks. -/
def rdSlot (t : ByteArray) (n : Nat) : Option (Nat × Nat × Nat × Nat) :=
  let l := t.data.toList
  if 50 ≤ nmAt l 20 ∧ nmAt l 20 + 3 ≤ n ∧ nmAt l 24 < nmAt l 20 ∧ t = slotB (wideAt l 4) (wideAt l 12) (nmAt l 20) (nmAt l 24) then some (wideAt l 4, wideAt l 12, nmAt l 20, nmAt l 24) else none

/-- Writes, in order, up to the first error; and a flush behind them. -/
def DevS.wrs (D : DevS) : List (Int × ByteArray) → Int × DevS
  | [] => (0, D)
  | x :: r => if (D.wr x.1 x.2).1 ≠ 0 then D.wr x.1 x.2 else DevS.wrs (D.wr x.1 x.2).2 r
def DevS.stl (D : DevS) (l : List (Int × ByteArray)) : Int × DevS := if (D.wrs l).1 ≠ 0 then D.wrs l else (D.wrs l).2.fl

theorem DevS.wrs_snoc (D : DevS) (l : List (Int × ByteArray)) (x : Int × ByteArray) (h : (D.wrs l).1 = 0) : D.wrs (l ++ [x]) = (D.wrs l).2.wr x.1 x.2 := by
  induction l generalizing D with
  | nil =>
    show DevS.wrs D [x] = _
    unfold DevS.wrs
    split
    · rfl
    · rename_i h2
      have e : (D.wr x.1 x.2).1 = 0 := by omega
      show (0, _) = D.wr x.1 x.2
      exact Prod.ext e.symm rfl
  | cons y r ih =>
    rw [List.cons_append]
    unfold DevS.wrs at h ⊢
    split at h
    · rename_i h2; exact absurd h h2
    · rename_i h2; rw [if_neg h2, if_neg h2]; exact ih _ h
theorem DevS.wrs_err (D : DevS) (l m : List (Int × ByteArray)) (h : (D.wrs l).1 ≠ 0) : D.wrs (l ++ m) = D.wrs l := by
  induction l generalizing D with
  | nil => exact absurd rfl h
  | cons y r ih =>
    rw [List.cons_append]
    unfold DevS.wrs at h ⊢
    split at h
    · rename_i h2; rw [if_pos h2, if_pos h2]
    · rename_i h2; rw [if_neg h2, if_neg h2]; exact ih _ h
theorem DevS.wrs_append (D : DevS) (l m : List (Int × ByteArray)) (h : (D.wrs l).1 = 0) : D.wrs (l ++ m) = (D.wrs l).2.wrs m := by
  induction l generalizing D with
  | nil => rfl
  | cons y r ih =>
    rw [List.cons_append]
    unfold DevS.wrs at h
    conv => lhs; unfold DevS.wrs
    conv => rhs; arg 1; unfold DevS.wrs
    split at h
    · rename_i h2; exact absurd h h2
    · rename_i h2; rw [if_neg h2, if_neg h2]; exact ih _ h
theorem DevS.wr_len (D : DevS) (i : Int) (s : ByteArray) : (D.wr i s).2.pend.length ≤ D.pend.length + 1 := by
  unfold DevS.wr
  split
  · exact Nat.le_succ _
  · split
    · exact Nat.le_succ _
    · split
      · rw [DevS.tk_pend]; exact Nat.le_succ _
      · simp
theorem DevS.wrs_len (D : DevS) (l : List (Int × ByteArray)) : (D.wrs l).2.pend.length ≤ D.pend.length + l.length := by
  induction l generalizing D with
  | nil => exact Nat.le_refl _
  | cons x r ih =>
    have h := D.wr_len x.1 x.2
    unfold DevS.wrs
    split
    · rw [List.length_cons]; omega
    · have := ih (D.wr x.1 x.2).2; rw [List.length_cons]; omega
theorem DevS.fl_len (D : DevS) : D.fl.2.pend.length ≤ D.pend.length := by
  unfold DevS.fl
  split
  · exact Nat.le_refl _
  · split
    · rw [DevS.tk_pend]; exact Nat.le_refl _
    · exact Nat.zero_le _
theorem DevS.stl_len (D : DevS) (l : List (Int × ByteArray)) : (D.stl l).2.pend.length ≤ D.pend.length + l.length := by
  have h := D.wrs_len l
  have h2 := (D.wrs l).2.fl_len
  unfold DevS.stl
  split <;> omega
theorem DevS.wr_disk (D : DevS) (i : Int) (s : ByteArray) : (D.wr i s).2.disk = D.disk := by
  unfold DevS.wr
  split
  · rfl
  · split
    · rfl
    · split
      · exact DevS.tk_disk D
      · exact DevS.tk_disk D
theorem DevS.wrs_disk (D : DevS) (l : List (Int × ByteArray)) : (D.wrs l).2.disk = D.disk := by
  induction l generalizing D with
  | nil => rfl
  | cons x r ih =>
    unfold DevS.wrs
    split
    · exact D.wr_disk _ _
    · rw [ih, D.wr_disk]
theorem DevS.fl_disk (D : DevS) : D.fl.2.disk.length = D.disk.length := by
  unfold DevS.fl
  split
  · rfl
  · split
    · rw [DevS.tk_disk]
    · simp [laidTo_length]
theorem DevS.stl_disk (D : DevS) (l : List (Int × ByteArray)) : (D.stl l).2.disk.length = D.disk.length := by
  unfold DevS.stl
  split
  · rw [D.wrs_disk]
  · rw [DevS.fl_disk, D.wrs_disk]
theorem DevS.tk_dead (D : DevS) (h : D.tk.1 = true) : D.tk.2.dead = D.dead := by
  unfold DevS.tk at *
  split
  · rfl
  · split
    · rename_i h1 h2; rw [if_neg h1, if_pos h2] at h; cases h
    · rfl
theorem DevS.wr_live (D : DevS) (i : Int) (s : ByteArray) (h : (D.wr i s).1 = 0) : (D.wr i s).2.dead = false := by
  unfold DevS.wr at *
  split
  · rename_i h1; rw [if_pos h1] at h; exact absurd h h1
  · rename_i h1
    rw [if_neg h1] at h
    split
    · rename_i h2; rw [if_pos h2] at h; cases h
    · rename_i h2
      rw [if_neg h2] at h
      split
      · rename_i h3; rw [if_pos h3] at h; cases h
      · rename_i h3
        show D.tk.2.dead = false
        rw [D.tk_dead (by simpa using h3)]
        have h0 : D.ck i = 0 := by simpa using h1
        unfold DevS.ck at h0
        cases hd : D.dead with
        | false => rfl
        | true => rw [hd] at h0; simp at h0
theorem DevS.wrs_live (D : DevS) (l : List (Int × ByteArray)) (hd : D.dead = false) (h : (D.wrs l).1 = 0) : (D.wrs l).2.dead = false := by
  induction l generalizing D with
  | nil => exact hd
  | cons x r ih =>
    unfold DevS.wrs at h ⊢
    split
    · rename_i h1; rw [if_pos h1] at h; exact absurd h h1
    · rename_i h1; rw [if_neg h1] at h; exact ih _ (D.wr_live _ _ (by simpa using h1)) h
theorem DevS.fl_live (D : DevS) (h : D.fl.1 = 0) : D.fl.2.dead = false := by
  unfold DevS.fl at *
  split
  · rename_i h1; rw [if_pos h1] at h; cases h
  · rename_i h1
    rw [if_neg h1] at h
    split
    · rename_i h2; rw [if_pos h2] at h; cases h
    · rename_i h2
      show D.tk.2.dead = false
      rw [D.tk_dead (by simpa using h2)]; simpa using h1
theorem DevS.stl_live (D : DevS) (l : List (Int × ByteArray)) (h : (D.stl l).1 = 0) : (D.stl l).2.dead = false := by
  unfold DevS.stl at *
  split
  · rename_i h1; rw [if_pos h1] at h; exact absurd h h1
  · rename_i h1; rw [if_neg h1] at h; exact DevS.fl_live _ h

/-- Why writes cannot be committed. -/
def JS.chk1 (J : JS) (n : Nat) (x : Int × ByteArray) : Nat := if x.1 < J.home ∨ (n : Int) ≤ x.1 then 2 else if x.2.size ≠ 256 then 3 else 0
def JS.chkL (J : JS) (n : Nat) : List (Int × ByteArray) → Nat
  | [] => 0
  | x :: l => if J.chk1 n x = 0 then JS.chkL J n l else J.chk1 n x
def JS.chk (J : JS) (n : Nat) (l : List (Int × ByteArray)) : Nat := if l.length = 0 ∨ 48 < l.length then 6 else J.chkL n l
def JS.WrOk (J : JS) (n : Nat) (x : Int × ByteArray) : Prop := J.home ≤ x.1 ∧ x.1 < n ∧ x.2.size = 256
theorem JS.chk1_ok (J : JS) (n : Nat) (x : Int × ByteArray) : J.chk1 n x = 0 ↔ J.WrOk n x := by
  unfold JS.chk1 JS.WrOk
  by_cases h : x.1 < J.home ∨ (n : Int) ≤ x.1
  · rw [if_pos h]; constructor
    · intro h2; omega
    · intro h2; omega
  · rw [if_neg h]
    by_cases h2 : x.2.size ≠ 256
    · rw [if_pos h2]; constructor
      · intro h2; omega
      · intro h3; exact absurd h3.2.2 h2
    · rw [if_neg h2]; constructor
      · intro _; exact ⟨by omega, by omega, by omega⟩
      · intro _; rfl
theorem JS.chkL_ok (J : JS) (n : Nat) (l : List (Int × ByteArray)) : J.chkL n l = 0 ↔ ∀ x ∈ l, J.WrOk n x := by
  induction l with
  | nil => simp [JS.chkL]
  | cons x l ih =>
    unfold JS.chkL
    by_cases h : J.chk1 n x = 0
    · rw [if_pos h, ih]
      constructor
      · intro h2 y hy
        rcases List.mem_cons.1 hy with rfl | hy
        · exact (J.chk1_ok n _).1 h
        · exact h2 y hy
      · intro h2 y hy; exact h2 y (List.mem_cons_of_mem _ hy)
    · rw [if_neg h]
      constructor
      · intro h2; exact absurd h2 h
      · intro h2; exact absurd ((J.chk1_ok n x).2 (h2 x (List.mem_cons_self ..))) h
theorem JS.chkL_drop (J : JS) (n : Nat) (l : List (Int × ByteArray)) (k : Nat) (h : k < l.length) (hk : J.chk1 n l[k] = 0) : J.chkL n (l.drop k) = J.chkL n (l.drop (k + 1)) := by
  rw [List.drop_eq_getElem_cons h]; show (if J.chk1 n l[k] = 0 then _ else _) = _; rw [if_pos hk]
theorem JS.chkL_at (J : JS) (n : Nat) (l : List (Int × ByteArray)) (k : Nat) (h : k < l.length) (hk : J.chk1 n l[k] ≠ 0) : J.chkL n (l.drop k) = J.chk1 n l[k] := by
  rw [List.drop_eq_getElem_cons h]; show (if J.chk1 n l[k] = 0 then _ else _) = _; rw [if_neg hk]
theorem JS.chk_ok (J : JS) (n : Nat) (l : List (Int × ByteArray)) : J.chk n l = 0 ↔ 1 ≤ l.length ∧ l.length ≤ 48 ∧ ∀ x ∈ l, J.WrOk n x := by
  unfold JS.chk
  by_cases h : l.length = 0 ∨ 48 < l.length
  · rw [if_pos h]; constructor
    · intro h2; omega
    · intro h2; omega
  · rw [if_neg h, J.chkL_ok]; constructor
    · intro h2; exact ⟨by omega, by omega, h2⟩
    · intro h2; exact h2.2.2

/-- A checkpoint: the error, the device, the journal. -/
def JS.next' (J : JS) : JS := ⟨(J.e + 1) % 18446744073709551616, J.next, J.log, J.pos 0 - 2, 1 - J.side, J.next, 0⟩
def JS.ckp (J : JS) (D : DevS) : Int × DevS × JS :=
  let a := D.stl [(((J.pos 0 : Nat) : Int), noughts)]
  if a.1 ≠ 0 then (a.1, a.2, J) else
  let b := a.2.stl [(((1 - J.side : Nat) : Int), slotB ((J.e + 1) % 18446744073709551616) J.next J.log (J.pos 0 - 2))]
  if b.1 ≠ 0 then (b.1, b.2, J) else (0, b.2, J.next')
/-- What is written of a frame's data, behind its head's place. -/
def JS.dataW (J : JS) (ds : List ByteArray) : List (Int × ByteArray) := ((List.range ds.length).map fun i => (((J.pos (i + 1) : Nat) : Int), ds.getD i ByteArray.empty)) ++ [(((J.pos (ds.length + 1) : Nat) : Int), noughts)]
def JS.addF (J : JS) (D : DevS) (top : ByteArray) (ds : List ByteArray) : Int × DevS × JS :=
  let a := D.stl (J.dataW ds)
  if a.1 ≠ 0 then (a.1, a.2, J) else
  let b := a.2.stl [(((J.pos 0 : Nat) : Int), top)]
  if b.1 ≠ 0 then (b.1, b.2, J) else (0, b.2, J.grow (ds.length + 1))
def JS.commit (J : JS) (D : DevS) (l : List (Int × ByteArray)) : Int × DevS × JS :=
  if J.chk D.disk.length l ≠ 0 then (J.chk D.disk.length l, D, J) else
  let c := if J.left < l.length + 2 then J.ckp D else (0, D, J)
  if c.1 ≠ 0 then c else
  let a := c.2.2.addF c.2.1 (bs (Fr.topL J.next l)) (l.map (·.2))
  if a.1 ≠ 0 then a else ((a.2.1.wrs l).1, (a.2.1.wrs l).2, a.2.2)
/-- The writes of the frame behind those that are there. -/
def JS.frameAt (J : JS) (D : DevS) : List ByteArray := D.rdB (J.pos 0) :: (List.range (nmAt (D.rdB (J.pos 0)).data.toList 12)).map fun i => D.rdB (J.pos (i + 1))
def JS.frameOf (J : JS) (D : DevS) : Option (List (Int × ByteArray)) :=
  if Fr.headB (D.rdB (J.pos 0)).data.toList = true ∧ nmAt (D.rdB (J.pos 0)).data.toList 12 + 1 ≤ J.left ∧ (unp (J.frameAt D)).2.2 = 0 ∧ (unp (J.frameAt D)).1 = J.next ∧ J.chk D.disk.length (unp (J.frameAt D)).2.1 = 0
  then some (unp (J.frameAt D)).2.1 else none
def JS.redoN (J : JS) (D : DevS) : Nat → Int × DevS × JS
  | 0 => (0, D, J)
  | m + 1 => match J.frameOf D with
    | none => (0, D, J)
    | some ws => if (D.wrs ws).1 ≠ 0 then ((D.wrs ws).1, (D.wrs ws).2, J.grow (ws.length + 1)) else JS.redoN (J.grow (ws.length + 1)) (D.wrs ws).2 m
def JS.redo (J : JS) (D : DevS) : Int × DevS × JS := J.redoN D (J.log + 1)
/-- The slot that counts. -/
def slotJ (x : Nat × Nat × Nat × Nat) (i : Nat) : JS := ⟨x.1, x.2.1, x.2.2.1, x.2.2.2, i, x.2.1, 0⟩
def DevS.slotAt (D : DevS) (i : Nat) : Option (Nat × Nat × Nat × Nat) := if i < D.disk.length then rdSlot (D.rdB i) D.disk.length else none
def DevS.find (D : DevS) : Option JS :=
  match D.slotAt 0, D.slotAt 1 with
  | none, none => none
  | some x, none => some (slotJ x 0)
  | none, some y => some (slotJ y 1)
  | some x, some y => if x.1 < y.1 then some (slotJ y 1) else some (slotJ x 0)
def DevS.opn (D : DevS) : Int × DevS × Option JS :=
  if D.dead then (4, D, none) else
  match D.find with
  | none => (10, D, none)
  | some J =>
    let r := J.redo D
    if r.1 ≠ 0 then (r.1, r.2.1, none) else
    let c := r.2.2.ckp r.2.1
    if c.1 ≠ 0 then (c.1, c.2.1, none) else (0, c.2.1, some c.2.2)
def fmtL (log : Nat) : List (Int × ByteArray) := ((List.range (log + 1)).map fun i => (((i + 1 : Nat) : Int), noughts)) ++ [(0, slotB 1 1 log 0)]
def DevS.fmt (D : DevS) (log : Int) : Int × DevS := if log < 50 ∨ (D.disk.length : Int) - 3 < log then (2, D) else D.stl (fmtL log.toNat)
end Go.Proofs.Ytodfcbpimglhdaa
/- A journal in memory, and what its smallest calls answer: Seq, Home, Used, left, behind, grow, fits, noughts. -/
namespace Go.Proofs.Ytodfcbpimglhdaa
open Go.RowKit
open Fr (bs fixL nmAt)

def JCells (p : Nat) (J : JS) : Array Value := #[.pointer (some ⟨p, 0, none⟩), .int .u64 J.e, .int .u64 J.s, .int .i64 J.log, .int .i64 J.p, .int .i64 J.side, .int .u64 J.next, .int .i64 J.full]
/-- Block a is a journal (of type t) over the device p, and says J. -/
def Jr (t : TypeId) (w : World) (a p : Nat) (J : JS) : Prop := w.heap[a]? = some (.cells (JCells p J) t (0, 0))
section
variable {t : TypeId} {w w' : World} {a p : Nat} {J : JS}
theorem Jr.c0 (h : Jr t w a p J) : w.cell? ⟨a, 0, none⟩ = some (.pointer (some ⟨p, 0, none⟩)) := by rw [cell_at h]; rfl
theorem Jr.c1 (h : Jr t w a p J) : w.cell? ⟨a, 1, none⟩ = some (.int .u64 J.e) := by rw [cell_at h]; rfl
theorem Jr.c2 (h : Jr t w a p J) : w.cell? ⟨a, 2, none⟩ = some (.int .u64 J.s) := by rw [cell_at h]; rfl
theorem Jr.c3 (h : Jr t w a p J) : w.cell? ⟨a, 3, none⟩ = some (.int .i64 J.log) := by rw [cell_at h]; rfl
theorem Jr.c4 (h : Jr t w a p J) : w.cell? ⟨a, 4, none⟩ = some (.int .i64 J.p) := by rw [cell_at h]; rfl
theorem Jr.c5 (h : Jr t w a p J) : w.cell? ⟨a, 5, none⟩ = some (.int .i64 J.side) := by rw [cell_at h]; rfl
theorem Jr.c6 (h : Jr t w a p J) : w.cell? ⟨a, 6, none⟩ = some (.int .u64 J.next) := by rw [cell_at h]; rfl
theorem Jr.c7 (h : Jr t w a p J) : w.cell? ⟨a, 7, none⟩ = some (.int .i64 J.full) := by rw [cell_at h]; rfl
theorem Jr.f (h : Jr t w a p J) (i : Nat) : w.frozen? ⟨a, i, none⟩ = false := free_at h i
theorem Jr.lt (h : Jr t w a p J) : a < w.heap.size := (Array.getElem?_eq_some_iff.1 h).1
theorem Jr.below (h : Jr t w a p J) (hb : Below w.heap.size w w') : Jr t w' a p J := by unfold Jr; rw [hb.block a h.lt]; exact h
theorem Jr.only {S : Nat → Prop} (h : Jr t w a p J) (ho : Only S w w') (hs : ¬ S a) : Jr t w' a p J := by unfold Jr; rw [ho.block a h.lt hs]; exact h
end

theorem pos_split (p full i log : Nat) (h0 : p < log) (h1 : full + i ≤ log) :
    (p + full + i < log ∧ 2 + (p + full + i) % log = 2 + (p + full + i)) ∨ (log ≤ p + full + i ∧ 2 + (p + full + i) % log = 2 + (p + full + i - log)) := by
  by_cases h : p + full + i < log
  · exact .inl ⟨h, by rw [Nat.mod_eq_of_lt h]⟩
  · refine .inr ⟨by omega, ?_⟩
    rw [Nat.mod_eq_sub_mod (by omega), Nat.mod_eq_of_lt (by omega)]
theorem JS.Ok.pos_lt {J : JS} {n : Nat} (h : J.Ok n) (i : Nat) : 2 ≤ J.pos i ∧ J.pos i < 2 + J.log := by
  have := Nat.mod_lt (J.p + J.full + i) (show 0 < J.log by have := h.l0; omega)
  unfold JS.pos; omega

section
variable {w : World} {a p : Nat} {J : JS} {n : Nat}

set_option maxRecDepth 100000 in
set_option maxHeartbeats 400000 in
theorem seq_any (h : Jr 85 w a p J) : Calls Try.prog 20 #[.pointer (some ⟨a, 0, none⟩)] w fun e w' => e = .returned (.int .u64 J.next) ∧ w = w' := by
  have c := h.c6; clear h
  go_enter Try.func20, Try.ntmps20
  go_wp2
  go_ret
  exact ⟨rfl, rfl⟩

set_option maxRecDepth 100000 in
set_option maxHeartbeats 400000 in
theorem used_any (h : Jr 85 w a p J) : Calls Try.prog 34 #[.pointer (some ⟨a, 0, none⟩)] w fun e w' => e = .returned (.int .i64 J.full) ∧ w = w' := by
  have c := h.c7; clear h
  go_enter Try.func34, Try.ntmps34
  go_wp2
  go_ret
  exact ⟨rfl, rfl⟩

set_option maxRecDepth 100000 in
set_option maxHeartbeats 400000 in
theorem home_any (h : Jr 85 w a p J) (hl : J.log ≤ 4096) : Calls Try.prog 21 #[.pointer (some ⟨a, 0, none⟩)] w fun e w' => e = .returned (.int .i64 J.home) ∧ w = w' := by
  have c := h.c3; clear h
  have e0 : (J.home : Int) = 2 + (J.log : Int) := by unfold JS.home; omega
  rw [e0]; clear e0
  generalize J.log = l at *
  go_enter Try.func21, Try.ntmps21
  go_wp2
  go_ret
  exact ⟨rfl, rfl⟩

set_option maxRecDepth 100000 in
set_option maxHeartbeats 400000 in
theorem left_drew (h : Jr 85 w a p J) (ok : J.Ok n) (hn : n ≤ 4096) : Calls Try.prog 62 #[.pointer (some ⟨a, 0, none⟩)] w fun e w' => e = .returned (.int .i64 J.left) ∧ w' = w.drew := by
  have c := h.c3; have c7 := h.c7; clear h
  have h1 := ok.l1; have h2 := ok.fu
  have e0 : (J.left : Int) = (J.log : Int) - (J.full : Int) := by unfold JS.left; omega
  rw [e0]; clear e0 ok
  generalize J.log = l at *
  generalize J.full = f at *
  have w1 : IntKind.i64.wrap ((l : Int) - (f : Int)) = (l : Int) - (f : Int) := IntWalk.i64_in _ (by omega)
  go_enter Try.func62, Try.ntmps62
  go_wp2
  go_region
  go_wp2
  go_ret
  exact ⟨rfl, rfl⟩
theorem left_any (h : Jr 85 w a p J) (ok : J.Ok n) (hn : n ≤ 4096) : Calls Try.prog 62 #[.pointer (some ⟨a, 0, none⟩)] w fun e w' => e = .returned (.int .i64 J.left) ∧ Below w.heap.size w w' :=
  (left_drew h ok hn).mono fun e w' ⟨he, hw⟩ => by subst hw; exact ⟨he, (Below.refl _ _).drew⟩

set_option maxRecDepth 100000 in
set_option maxHeartbeats 400000 in
theorem behind_drew (i : Nat) (h : Jr 85 w a p J) (ok : J.Ok n) (hn : n ≤ 4096) (hi : J.full + i ≤ J.log) :
    Calls Try.prog 67 #[.pointer (some ⟨a, 0, none⟩), .int .i64 i] w fun e w' => e = .returned (.int .i64 (J.pos i)) ∧ w' = w.drew := by
  have c3 := h.c3; have c4 := h.c4; have c7 := h.c7; clear h
  have h1 := ok.l1; have h2 := ok.fu; have h3 := ok.pl
  unfold JS.pos
  have hs := pos_split J.p J.full i J.log h3 hi
  clear ok
  generalize J.log = l at *
  generalize J.full = f at *
  generalize J.p = q at *
  have w1 : IntKind.i64.wrap ((q : Int) + (f : Int)) = (q : Int) + (f : Int) := IntWalk.i64_in _ (by omega)
  have w2 : IntKind.i64.wrap ((q : Int) + (f : Int) + (i : Int)) = (q : Int) + (f : Int) + (i : Int) := IntWalk.i64_in _ (by omega)
  rcases hs with ⟨hlt, e⟩ | ⟨hlt, e⟩
  · have e' : (((2 + (q + f + i) % l : Nat)) : Int) = 2 + ((q : Int) + (f : Int) + (i : Int)) := by rw [e]; omega
    rw [e']
    have hlt' : ¬ (l : Int) ≤ (q : Int) + (f : Int) + (i : Int) := by omega
    have w3 : IntKind.i64.wrap (2 + ((q : Int) + (f : Int) + (i : Int))) = 2 + ((q : Int) + (f : Int) + (i : Int)) := IntWalk.i64_in _ (by omega)
    clear e e'
    go_enter Try.func67, Try.ntmps67
    go_wp2
    go_region
    go_wp2
    go_ret
    exact ⟨rfl, rfl⟩
  · have e' : (((2 + (q + f + i) % l : Nat)) : Int) = 2 + ((q : Int) + (f : Int) + (i : Int) - (l : Int)) := by rw [e]; omega
    rw [e']
    have hlt' : (l : Int) ≤ (q : Int) + (f : Int) + (i : Int) := by omega
    have w3 : IntKind.i64.wrap ((q : Int) + (f : Int) + (i : Int) - (l : Int)) = (q : Int) + (f : Int) + (i : Int) - (l : Int) := IntWalk.i64_in _ (by omega)
    have w4 : IntKind.i64.wrap (2 + ((q : Int) + (f : Int) + (i : Int) - (l : Int))) = 2 + ((q : Int) + (f : Int) + (i : Int) - (l : Int)) := IntWalk.i64_in _ (by omega)
    clear e e'
    go_enter Try.func67, Try.ntmps67
    go_wp2
    go_region
    go_wp2
    go_ret
    exact ⟨rfl, rfl⟩
theorem behind_any (i : Nat) (h : Jr 85 w a p J) (ok : J.Ok n) (hn : n ≤ 4096) (hi : J.full + i ≤ J.log) :
    Calls Try.prog 67 #[.pointer (some ⟨a, 0, none⟩), .int .i64 i] w fun e w' => e = .returned (.int .i64 (J.pos i)) ∧ Below w.heap.size w w' :=
  (behind_drew i h ok hn hi).mono fun e w' ⟨he, hw⟩ => by subst hw; exact ⟨he, (Below.refl _ _).drew⟩

theorem Jr.put {t : TypeId} {J' : JS} {i : Nat} {v : Value} (h : Jr t w a p J) (hc : (JCells p J).setIfInBounds i v = JCells p J') : Jr t (w.setCell ⟨a, i, none⟩ v) a p J' := by
  unfold Jr; rw [heap_setCell_at h, hc]

set_option maxRecDepth 100000 in
set_option maxHeartbeats 400000 in
theorem grow_any (m : Nat) (h : Jr 85 w a p J) (ok : J.Ok n) (hn : n ≤ 4096) (hm : m ≤ 5000) :
    Calls Try.prog 77 #[.pointer (some ⟨a, 0, none⟩), .int .i64 m] w fun e w' => e = .returned (.tuple #[]) ∧ Jr 85 w' a p (J.grow m) ∧ Only (fun k => k = a) w w' ∧ w'.heap.size = w.heap.size := by
  have c6 := h.c6; have f6 := h.f 6; have c7 := h.c7; have f7 := h.f 7
  have h1 := ok.l1; have h2 := ok.fu
  obtain ⟨x, hx⟩ : ∃ x : Nat, x = (J.next + 1) % 18446744073709551616 := ⟨_, rfl⟩
  have wn : IntKind.u64.wrap ((J.next : Int) + 1) = (x : Int) := by rw [hx]; simp [IntKind.wrap, IntKind.bits, IntKind.signed]
  have hj : Hid (Jr 85 ((w.setCell ⟨a, 6, none⟩ (.int .u64 x)).setCell ⟨a, 7, none⟩ (.int .i64 ((J.full : Int) + (m : Int)))) a p (J.grow m)) := by
    have h1 := h.put (J' := { J with next := x }) (i := 6) (v := .int .u64 x) rfl
    exact h1.put (by unfold JS.grow; rw [← hx]; simp [JCells])
  have HX := Lib.hid hx; clear hx
  have wf : IntKind.i64.wrap ((J.full : Int) + (m : Int)) = (J.full : Int) + (m : Int) := IntWalk.i64_in _ (by omega)
  clear ok h
  generalize J.next = nx at *
  generalize J.full = fu at *
  go_enter Try.func77, Try.ntmps77
  go_wp2
  go_end0
  exact ⟨rfl, hj.out, ((Only.refl (fun k => k = a) w).setCell (p := ⟨a, 6, none⟩) (fun _ => rfl) _).setCell (p := ⟨a, 7, none⟩) (fun _ => rfl) _, by simp [World.setCell]⟩

set_option maxRecDepth 100000 in
set_option maxHeartbeats 400000 in
theorem fits_any (log : Int) (b : Nat) (hb : b ≤ 4096) : Calls Try.prog 54 #[.int .i64 log, .int .i64 b] w fun e w' => e = .returned (.bool (decide (50 ≤ log ∧ log ≤ (b : Int) - 3))) ∧ w = w' := by
  by_cases h : 50 ≤ log
  · by_cases h2 : log ≤ (b : Int) - 3
    · have e : decide (50 ≤ log ∧ log ≤ (b : Int) - 3) = true := by simp [h, h2]
      rw [e]
      have w1 : IntKind.i64.wrap ((b : Int) - 2) = (b : Int) - 2 := IntWalk.i64_in _ (by omega)
      have w2 : IntKind.i64.wrap ((b : Int) - 2 - 1) = (b : Int) - 2 - 1 := IntWalk.i64_in _ (by omega)
      have h3 : log ≤ (b : Int) - 2 - 1 := by omega
      clear e h2
      go_enter Try.func54, Try.ntmps54
      go_wp2
      go_ret
      exact ⟨rfl, rfl⟩
    · have e : decide (50 ≤ log ∧ log ≤ (b : Int) - 3) = false := by simp; omega
      rw [e]
      have w1 : IntKind.i64.wrap ((b : Int) - 2) = (b : Int) - 2 := IntWalk.i64_in _ (by omega)
      have w2 : IntKind.i64.wrap ((b : Int) - 2 - 1) = (b : Int) - 2 - 1 := IntWalk.i64_in _ (by omega)
      have h3 : ¬ log ≤ (b : Int) - 2 - 1 := by omega
      clear e h2
      go_enter Try.func54, Try.ntmps54
      go_wp2
      go_ret
      exact ⟨rfl, rfl⟩
  · have e : decide (50 ≤ log ∧ log ≤ (b : Int) - 3) = false := by simp; omega
    rw [e]
    clear e
    go_enter Try.func54, Try.ntmps54
    go_wp2
    go_ret
    exact ⟨rfl, rfl⟩
end
end Go.Proofs.Ytodfcbpimglhdaa
/- What check answers: why writes cannot be committed. -/
namespace Go.Proofs.Ytodfcbpimglhdaa
open Go.RowKit
open Fr (SlW WritesAt)

section
variable {S : Nat → Prop} {w w' : World} {a p : Nat} {J : JS} {D : DevS} {v : Value} {L : List (Int × ByteArray)}

set_option maxRecDepth 100000 in
set_option maxHeartbeats 1000000 in
theorem jcheck_many (ao : Option Addr) (n c : Nat) (w : World) (h : n = 0 ∨ 48 < n) (hm : n ≤ 1000) :
    Calls Try.prog 60 #[.pointer (some ⟨a, 0, none⟩), .slice ao n c] w fun e w' => e = .returned (.int .i64 6) ∧ Below w.heap.size w w' := by
  rcases h with rfl | h
  · go_enter Try.func60, Try.ntmps60
    go_wp2
    go_ret
    exact ⟨rfl, Below.refl _ _⟩
  · have h0 : ((n : Int) == 0) = false := beq_eq_false_iff_ne.2 (by omega)
    have h1 : (48 : Int) < (n : Int) := by omega
    go_enter Try.func60, Try.ntmps60
    go_wp2
    go_ret
    exact ⟨rfl, Below.refl _ _⟩

set_option maxRecDepth 100000 in
set_option maxHeartbeats 1000000 in
theorem jcheck_some (b off c : Nat) (hj : Jr 85 w a p J) (hd : Stands S w p D) (ok : J.Ok D.disk.length) (h1 : 1 ≤ L.length) (h2 : L.length ≤ 48) (hs : ∀ x ∈ L, x.2.size ≤ maxLen) (hb : b < w.heap.size) (hc : WritesAt w b off L) :
    Calls Try.prog 60 #[.pointer (some ⟨a, 0, none⟩), .slice (some ⟨b, off, none⟩) L.length c] w fun e w' => e = .returned (.int .i64 ((J.chkL D.disk.length L : Nat) : Int)) ∧ Below w.heap.size w w' := by
  have HC := Lib.hid hc; clear hc
  have HS := Lib.hid hs; clear hs
  have hnd := hd.ok.few
  have hlog : J.log ≤ 4096 := by have := ok.l1; omega
  have CH : Hid (∀ W, Below w.heap.size w W → Calls Try.prog 21 #[.pointer (some ⟨a, 0, none⟩)] W fun e w' => e = .returned (.int .i64 J.home) ∧ W = w') := fun W hW => home_any (hj.below hW) hlog
  have CB : Hid (∀ W, Below w.heap.size w W → Calls Try.prog 38 #[.pointer (some ⟨p, 0, none⟩)] W fun e w' => e = .returned (.int .i64 D.disk.length) ∧ W = w') := fun W hW => blocks_any (hd.below hW)
  have HJ := Lib.hid hj; clear hj
  clear hd ok
  obtain ⟨nd, hnd'⟩ : ∃ n, D.disk.length = n := ⟨_, rfl⟩
  rw [hnd'] at CB hnd ⊢
  clear hnd'
  obtain ⟨n, hn⟩ : ∃ n, L.length = n := ⟨_, rfl⟩
  rw [hn] at h1 h2 ⊢
  have HN := Lib.hid hn; clear hn
  have h0 : ((n : Int) == 0) = false := beq_eq_false_iff_ne.2 (by omega)
  have h3 : ¬ (48 : Int) < (n : Int) := by omega
  have hho : J.home ≤ 4100 := by unfold JS.home; omega
  go_enter Try.func60, Try.ntmps60
  go_wp2
  go_loopw [17] (fun i wr => ∃ k : Nat, k ≤ n ∧ i = .int .i64 k ∧ Hid (J.chkL nd L = J.chkL nd (L.drop k)) ∧ Hid (Below w.heap.size w wr)) (fun i _ => n - (intOf i).toNat)
  case atStart => exact ⟨0, Nat.zero_le _, rfl, rfl, Below.refl _ _⟩
  case round =>
    obtain ⟨k, hk, rfl, HK, HB⟩ := hrel
    have hbr := HB.out.size
    by_cases hlt : k < n
    · have hkL : k < L.length := by rw [HN.out]; exact hlt
      obtain ⟨c0, c1⟩ := (HC.out.below HB.out hb) k hkL
      have hsz := HS.out L[k] (List.getElem_mem hkL)
      unfold maxLen at hsz
      have ca := (HJ.out.below HB.out).c0
      have hal := (HJ.out.below HB.out).lt
      obtain ⟨X, hX⟩ : ∃ X, wr.alloc (.cells #[.int .i64 L[k].1, .string L[k].2] 71) = X := ⟨_, rfl⟩
      have hXb : Below wr.heap.size wr X := by rw [← hX]; exact (Below.refl _ _).alloc (Nat.le_refl _) _
      have hXh : X.heap[wr.heap.size]? = some (.cells #[.int .i64 L[k].1, .string L[k].2] 71 (0, 0)) := by rw [← hX, heap_alloc_new]
      have x0 : X.cell? ⟨wr.heap.size, 0, none⟩ = some (.int .i64 L[k].1) := by rw [cell_at hXh]; rfl
      have x1 : X.cell? ⟨wr.heap.size, 1, none⟩ = some (.string L[k].2) := by rw [cell_at hXh]; rfl
      have xa : X.cell? ⟨a, 0, none⟩ = some (.pointer (some ⟨p, 0, none⟩)) := (hXb.cell (p := ⟨a, 0, none⟩) hal).trans ca
      have HXW : Hid (Below w.heap.size w X) := HB.out.trans (hXb.mono hbr)
      have HX := Lib.hid hX; clear hX hXb hXh ca
      by_cases hx : J.chk1 nd L[k] = 0
      · obtain ⟨g0, g1, g2⟩ := (J.chk1_ok nd _).1 hx
        have HK2 : Hid (J.chkL nd L = J.chkL nd (L.drop (k + 1))) := by show _ = _; rw [HK.out, J.chkL_drop nd L k hkL hx]
        clear hx
        generalize L[k] = x at *
        obtain ⟨xb, xd⟩ := x
        simp only at c0 c1 x0 x1 g0 g1 g2 hsz HX
        have hne : ((xd.size : Int) != 256) = false := by simp; omega
        have d1 : decide (xb < (J.home : Int)) = false := decide_eq_false (by omega)
        have d2 : decide ((nd : Int) ≤ xb) = false := decide_eq_false (by omega)
        have d1' : ¬ xb < (J.home : Int) := by omega
        have d2' : ¬ (nd : Int) ≤ xb := by omega
        generalize J.home = ho at *
        go_wp2_with fail
        rw [HX.out]
        go_region_held3 (fun W => W.cell? ⟨a, 0, none⟩ = some (.pointer (some ⟨p, 0, none⟩)) ∧ W.cell? ⟨wr.heap.size, 0, none⟩ = some (.int .i64 xb))
          (first | exact ⟨xa, x0⟩ | assumption)
          (first | (go_at_call 21; refine (CH.out _ ?_).mono ?_; exact HXW.out.drew; rintro e w' ⟨rfl, rfl⟩) | (go_at_call 38; refine (CB.out _ ?_).mono ?_; exact HXW.out.drew; rintro e w' ⟨rfl, rfl⟩))
        go_wp2
        go_roundw
        case rel => exact ⟨k + 1, by omega, by go_num, HK2, HXW.out.drew⟩
        case measure => simp [intOf]; omega
      · have HE := Lib.hid (show J.chkL nd L = J.chk1 nd L[k] by rw [HK.out, J.chkL_at nd L k hkL hx])
        generalize L[k] = x at *
        obtain ⟨xb, xd⟩ := x
        simp only at c0 c1 x0 x1 hsz HX
        unfold JS.chk1 at hx HE
        simp only at hx HE
        by_cases hr : xb < (J.home : Int) ∨ (nd : Int) ≤ xb
        · rw [if_pos hr] at HE
          clear hx
          generalize J.home = ho at *
          by_cases hr1 : xb < (ho : Int)
          · have d1 : decide (xb < (ho : Int)) = true := decide_eq_true hr1
            clear hr
            go_wp2_with fail
            rw [HX.out]
            go_quiet ((go_at_call 21; refine Calls.quiet_of_same (((CH.out _ ?_).mono (fun e w' h => ⟨h.1, h.2.symm⟩)));  exact ⟨HXW.out.os, HXW.out.tape, HXW.out.output, HXW.out.size, HXW.out.block⟩))
            go_wp2
            go_ret
            exact ⟨by rw [HE.out]; rfl, Fr.below_drewN HXW.out _⟩
          · have hr2 : (nd : Int) ≤ xb := by omega
            have d1 : decide (xb < (ho : Int)) = false := decide_eq_false hr1
            have d2 : decide ((nd : Int) ≤ xb) = true := decide_eq_true hr2
            clear hr
            go_wp2_with fail
            rw [HX.out]
            go_region_held3 (fun W => W.cell? ⟨a, 0, none⟩ = some (.pointer (some ⟨p, 0, none⟩)) ∧ W.cell? ⟨wr.heap.size, 0, none⟩ = some (.int .i64 xb))
              (first | exact ⟨xa, x0⟩ | assumption)
              (first | (go_at_call 21; refine (CH.out _ ?_).mono ?_; exact HXW.out.drew; rintro e w' ⟨rfl, rfl⟩) | (go_at_call 38; refine (CB.out _ ?_).mono ?_; exact HXW.out.drew; rintro e w' ⟨rfl, rfl⟩))
            go_wp2
            go_ret
            exact ⟨by rw [HE.out]; rfl, HXW.out.drew⟩
        · rw [if_neg hr] at hx HE
          have d1 : decide (xb < (J.home : Int)) = false := decide_eq_false (by omega)
          have d2 : decide ((nd : Int) ≤ xb) = false := decide_eq_false (by omega)
          have d1' : ¬ xb < (J.home : Int) := by omega
          have d2' : ¬ (nd : Int) ≤ xb := by omega
          clear hr
          by_cases hz : xd.size ≠ 256
          · rw [if_pos hz] at HE
            clear hx
            have hne : ((xd.size : Int) != 256) = true := by simp; omega
            clear hz
            generalize J.home = ho at *
            go_wp2_with fail
            rw [HX.out]
            go_region_held3 (fun W => W.cell? ⟨a, 0, none⟩ = some (.pointer (some ⟨p, 0, none⟩)) ∧ W.cell? ⟨wr.heap.size, 0, none⟩ = some (.int .i64 xb))
              (first | exact ⟨xa, x0⟩ | assumption)
              (first | (go_at_call 21; refine (CH.out _ ?_).mono ?_; exact HXW.out.drew; rintro e w' ⟨rfl, rfl⟩) | (go_at_call 38; refine (CB.out _ ?_).mono ?_; exact HXW.out.drew; rintro e w' ⟨rfl, rfl⟩))
            go_wp2
            go_ret
            exact ⟨by rw [HE.out]; rfl, HXW.out.drew⟩
          · rw [if_neg hz] at hx; exact absurd rfl hx
    · have hkn : k = n := by omega
      subst hkn
      have HE : Hid (J.chkL nd L = 0) := by show _ = _; rw [HK.out, List.drop_of_length_le (by rw [HN.out]; exact Nat.le_refl _)]; rfl
      go_wp2
      go_ret
      exact ⟨by rw [HE.out]; rfl, HB.out⟩

theorem jcheck_any (hj : Jr 85 w a p J) (hd : Stands S w p D) (ok : J.Ok D.disk.length) (hl : L.length ≤ 1000) (hs : ∀ x ∈ L, x.2.size ≤ maxLen) (h : SlW w v L) :
    Calls Try.prog 60 #[.pointer (some ⟨a, 0, none⟩), v] w fun e w' => e = .returned (.int .i64 ((J.chk D.disk.length L : Nat) : Int)) ∧ Below w.heap.size w w' := by
  unfold JS.chk
  by_cases h0 : L.length = 0 ∨ 48 < L.length
  · rw [if_pos h0]
    obtain ⟨ao, c, rfl, _⟩ := h
    exact jcheck_many ao _ c w h0 hl
  · rw [if_neg h0]
    obtain ⟨b, off, c, rfl, _, hb, hc⟩ := h.here (by omega)
    exact jcheck_some b off c hj hd ok (by omega) (by omega) hs hb hc
end
end Go.Proofs.Ytodfcbpimglhdaa
/- What writeAll and settle answer and leave behind, for every journal over every device. -/
namespace Go.Proofs.Ytodfcbpimglhdaa
open Go.RowKit
open Fr (SlW WritesAt)

section
variable {S S1 T : Nat → Prop} {w w1 w2 w' : World} {a p : Nat} {J : JS} {D D1 D2 : DevS} {v : Value} {L : List (Int × ByteArray)}

/-- A slice that does not lie in the blocks of S. -/
def Outs (S : Nat → Prop) (v : Value) : Prop := ∀ g off n c, v = .slice (some ⟨g, off, none⟩) n c → ¬ S g
theorem Outs.mono (h : Outs S v) (hs : ∀ k, T k → S k) : Outs T v := fun g off n c hv ht => h g off n c hv (hs g ht)
theorem SlW.only (h : SlW w v L) (ho : Only T w w') (hT : Outs T v) : SlW w' v L := by
  obtain ⟨ao, c, hv, hc, h⟩ := h
  refine ⟨ao, c, hv, hc, ?_⟩
  rcases h with h | ⟨b, off, e, hlt, h⟩
  · exact .inl h
  · subst e
    have hnt := hT b off _ _ hv
    refine .inr ⟨b, off, rfl, Nat.lt_of_lt_of_le hlt ho.size, fun j hj => ⟨?_, ?_⟩⟩
    · rw [ho.cell (p := ⟨b, off + j * 2, none⟩) hlt hnt]; exact (h j hj).1
    · rw [ho.cell (p := ⟨b, off + j * 2 + 1, none⟩) hlt hnt]; exact (h j hj).2
theorem Outs.of_lt (h : SlW w v L) (hs : ∀ k, S k → w.heap.size ≤ k) (hl : L ≠ []) : Outs S v := by
  intro g off n c hv hg
  obtain ⟨ao, c', hv', hc, h⟩ := h
  rcases h with h | ⟨b, off', e, hlt, h⟩
  · exact hl h
  · subst e; rw [hv'] at hv; cases hv; have := hs _ hg; omega

theorem Leaves.next (hS1 : ∀ k, S1 k → S k ∨ w.heap.size ≤ k) (ho : Only S w w1) (h : Leaves S1 w1 w2 p D2) : Leaves S w w2 p D2 := by
  obtain ⟨S2, hS2, hs, ho2⟩ := h
  refine ⟨S2, fun k hk => ?_, hs, ho.trans ho2 (fun i hi h1 => ?_)⟩
  · rcases hS2 k hk with h | h
    · exact hS1 k h
    · exact .inr (Nat.le_trans ho.size h)
  · rcases hS1 i h1 with h | h
    · exact h
    · omega
theorem Leaves.below (h : Leaves S w w1 p D1) (hb : Below w1.heap.size w1 w2) : Leaves S w w2 p D1 := by
  obtain ⟨S2, hS2, hs, ho2⟩ := h
  exact ⟨S2, hS2, hs.below hb, ho2.trans (Only.of_below (fun _ => False) hb (Nat.le_refl _)) (fun _ _ f => f.elim)⟩
theorem Leaves.from (hb : Below w.heap.size w w1) (h : Leaves S w1 w2 p D2) : Leaves S w w2 p D2 :=
  Leaves.next (fun _ h => .inl h) (Only.of_below S hb (Nat.le_refl _)) h
theorem Leaves.only (h : Leaves S w w1 p D1) : Only S w w1 := by obtain ⟨_, _, _, h⟩ := h; exact h
theorem Leaves.ok (h : Leaves S w w1 p D1) : D1.Ok := by obtain ⟨_, _, h, _⟩ := h; exact h.ok

theorem wrs_stop (D : DevS) (L : List (Int × ByteArray)) (k : Nat) (h : k < L.length) (h0 : (D.wrs (L.take k)).1 = 0) (he : ((D.wrs (L.take k)).2.wr L[k].1 L[k].2).1 ≠ 0) : D.wrs L = (D.wrs (L.take k)).2.wr L[k].1 L[k].2 := by
  have e1 : D.wrs (L.take (k + 1)) = (D.wrs (L.take k)).2.wr L[k].1 L[k].2 := by rw [take_snocL L k h, D.wrs_snoc _ _ h0]
  conv => lhs; rw [← List.take_append_drop (k + 1) L]
  rw [D.wrs_err _ _ (by rw [e1]; exact he), e1]
theorem wrs_goes (D : DevS) (L : List (Int × ByteArray)) (k : Nat) (h : k < L.length) (h0 : (D.wrs (L.take k)).1 = 0) (he : ((D.wrs (L.take k)).2.wr L[k].1 L[k].2).1 = 0) : (D.wrs (L.take (k + 1))).1 = 0 ∧ (D.wrs (L.take (k + 1))).2 = ((D.wrs (L.take k)).2.wr L[k].1 L[k].2).2 := by
  have e1 : D.wrs (L.take (k + 1)) = (D.wrs (L.take k)).2.wr L[k].1 L[k].2 := by rw [take_snocL L k h, D.wrs_snoc _ _ h0]
  rw [e1]; exact ⟨he, rfl⟩

set_option maxRecDepth 100000 in
set_option maxHeartbeats 1000000 in
theorem writeAll_some (b off c : Nat) (hj : Jr 85 w a p J) (hd : Stands S w p D) (ha : ¬ S a) (hl : L.length ≤ 10000) (hp : D.pend.length ≤ 900000) (hb : b < w.heap.size) (hc : WritesAt w b off L) (hs : ¬ S b) :
    Calls Try.prog 64 #[.pointer (some ⟨a, 0, none⟩), .slice (some ⟨b, off, none⟩) L.length c] w fun e w' => e = .returned (.int .i64 (D.wrs L).1) ∧ Leaves S w w' p (D.wrs L).2 := by
  have HC := Lib.hid hc; clear hc
  have HJ := Lib.hid hj; clear hj
  have HS := Lib.hid hs; clear hs
  have HA := Lib.hid ha; clear ha
  obtain ⟨n, hn⟩ : ∃ n, L.length = n := ⟨_, rfl⟩
  rw [hn] at hl ⊢
  have HN := Lib.hid hn; clear hn
  have HD := Lib.hid hd; clear hd
  go_enter Try.func64, Try.ntmps64
  go_wp2
  go_loopw [10] (fun i wr => ∃ k : Nat, k ≤ n ∧ i = .int .i64 k ∧ Hid ((D.wrs (L.take k)).1 = 0) ∧ Hid (Leaves S w wr p (D.wrs (L.take k)).2)) (fun i _ => n - (intOf i).toNat)
  case atStart => exact ⟨0, Nat.zero_le _, rfl, rfl, .mk HD.out (Only.refl _ _)⟩
  case round =>
    obtain ⟨k, hk, rfl, HK, HL⟩ := hrel
    by_cases hlt : k < n
    · have hkL : k < L.length := by rw [HN.out]; exact hlt
      have HO := HL.out.only
      have hbr := HO.size
      obtain ⟨S1, hS1, hs1, ho1⟩ := HL.out
      have hn1 : ∀ g, g < w.heap.size → ¬ S g → ¬ S1 g := fun g hg hs h => by rcases hS1 g h with h | h; exact hs h; omega
      have haw := HJ.out.lt
      have c0 : wr.cell? ⟨a, 0, none⟩ = some (.pointer (some ⟨p, 0, none⟩)) := (HO.cell (p := ⟨a, 0, none⟩) haw HA.out).trans HJ.out.c0
      obtain ⟨e0, e1⟩ := HC.out k hkL
      have d0 : wr.cell? ⟨b, off + k * 2, none⟩ = some (.int .i64 L[k].1) := (HO.cell (p := ⟨b, off + k * 2, none⟩) hb HS.out).trans e0
      have d1 : wr.cell? ⟨b, off + k * 2 + 1, none⟩ = some (.string L[k].2) := (HO.cell (p := ⟨b, off + k * 2 + 1, none⟩) hb HS.out).trans e1
      have hbb : b < wr.heap.size := Nat.lt_of_lt_of_le hb hbr
      obtain ⟨X, hX⟩ : ∃ X, wr.alloc (.cells #[.int .i64 L[k].1, .string L[k].2] 71) = X := ⟨_, rfl⟩
      have hXb : Below wr.heap.size wr X := by rw [← hX]; exact (Below.refl _ _).alloc (Nat.le_refl _) _
      have hXz : X.heap.size = wr.heap.size + 1 := by rw [← hX]; simp
      have hXh : X.heap[wr.heap.size]? = some (.cells #[.int .i64 L[k].1, .string L[k].2] 71 (0, 0)) := by rw [← hX, heap_alloc_new]
      have x0 : X.cell? ⟨wr.heap.size, 0, none⟩ = some (.int .i64 L[k].1) := by rw [cell_at hXh]; rfl
      have x1 : X.cell? ⟨wr.heap.size, 1, none⟩ = some (.string L[k].2) := by rw [cell_at hXh]; rfl
      have xa : X.cell? ⟨a, 0, none⟩ = some (.pointer (some ⟨p, 0, none⟩)) := (hXb.cell (p := ⟨a, 0, none⟩) (Nat.lt_of_lt_of_le haw hbr)).trans c0
      have hsX : Stands S1 X p (D.wrs (L.take k)).2 := hs1.below hXb
      have hpl : (D.wrs (L.take k)).2.pend.length ≤ 1000000 := by have := D.wrs_len (L.take k); rw [List.length_take] at this; omega
      have HW : Hid (∀ W, Below X.heap.size X W → Calls Try.prog 13 #[.pointer (some ⟨p, 0, none⟩), .int .i64 L[k].1, .string L[k].2] W fun e w' => e = .returned (.int .i64 ((D.wrs (L.take k)).2.wr L[k].1 L[k].2).1) ∧ Leaves S1 X w' p ((D.wrs (L.take k)).2.wr L[k].1 L[k].2).2) := by
        intro W hW
        exact (write_any L[k].1 L[k].2 hpl (hsX.below hW)).mono fun e w' ⟨he, hv⟩ => ⟨he, Leaves.from hW hv⟩
      have HKeep : Hid (∀ w' D', Leaves S1 X w' p D' → w'.cell? ⟨a, 0, none⟩ = some (.pointer (some ⟨p, 0, none⟩)) ∧ w'.cell? ⟨wr.heap.size, 0, none⟩ = some (.int .i64 L[k].1) ∧ w'.cell? ⟨wr.heap.size, 1, none⟩ = some (.string L[k].2)) := by
        intro w' D' h
        have h1 := h.only
        have na : ¬ S1 a := hn1 a haw HA.out
        have nx : ¬ S1 wr.heap.size := fun h => by have := hs1.lt _ h; omega
        exact ⟨(h1.cell (p := ⟨a, 0, none⟩) (by rw [hXz]; show a < _; omega) na).trans xa, (h1.cell (p := ⟨wr.heap.size, 0, none⟩) (by rw [hXz]; exact Nat.lt_succ_self _) nx).trans x0, (h1.cell (p := ⟨wr.heap.size, 1, none⟩) (by rw [hXz]; exact Nat.lt_succ_self _) nx).trans x1⟩
      have HLv : Hid (∀ w' D', Leaves S1 X w' p D' → Leaves S w w' p D') := fun w' D' h => Leaves.next hS1 ho1 (Leaves.from hXb h)
      have HSt := Lib.hid (wrs_stop D L k hkL HK.out)
      have HGo := Lib.hid (wrs_goes D L k hkL HK.out)
      clear hs1 ho1 hn1 HO e0 e1 c0 hXh hsX hpl hXb hXz haw
      have HX := Lib.hid hX; clear hX
      generalize (D.wrs (L.take k)).2.wr L[k].1 L[k].2 = R at *
      generalize L[k] = x at *
      obtain ⟨xb, xd⟩ := x
      obtain ⟨er, DR⟩ := R
      simp only at d0 d1 HX x0 x1 HW HKeep HSt HGo
      by_cases he : er = 0
      · have he' : (er != 0) = false := by simp [he]
        obtain ⟨g0, g1⟩ := HGo.out he
        have HG0 := Lib.hid g0; have HG1 := Lib.hid g1; clear g0 g1
        go_wp2_with fail
        rw [HX.out]
        go_region_held3 (fun W => W.cell? ⟨a, 0, none⟩ = some (.pointer (some ⟨p, 0, none⟩)) ∧ W.cell? ⟨wr.heap.size, 0, none⟩ = some (.int .i64 xb) ∧ W.cell? ⟨wr.heap.size, 1, none⟩ = some (.string xd))
          (first | exact ⟨xa, x0, x1⟩ | exact HKeep.out _ _ (by assumption))
          (first | (go_at_call 13; refine (HW.out _ ((Below.refl _ _).drew)).mono ?_; rintro e w' ⟨rfl, hlv⟩))
        have HF := Lib.hid (HLv.out _ _ hlv)
        clear hlv
        go_wp2
        go_roundw
        case rel => exact ⟨k + 1, by omega, by go_num, HG0, by rw [HG1.out]; exact HF.out⟩
        case measure => simp [intOf]; omega
      · have he' : (er != 0) = true := by simp [he]
        have HR := Lib.hid (HSt.out he)
        go_wp2_with fail
        rw [HX.out]
        go_region_held3 (fun W => W.cell? ⟨a, 0, none⟩ = some (.pointer (some ⟨p, 0, none⟩)) ∧ W.cell? ⟨wr.heap.size, 0, none⟩ = some (.int .i64 xb) ∧ W.cell? ⟨wr.heap.size, 1, none⟩ = some (.string xd))
          (first | exact ⟨xa, x0, x1⟩ | exact HKeep.out _ _ (by assumption))
          (first | (go_at_call 13; refine (HW.out _ ((Below.refl _ _).drew)).mono ?_; rintro e w' ⟨rfl, hlv⟩))
        have HF := Lib.hid (HLv.out _ _ hlv)
        clear hlv
        go_wp2
        go_ret
        exact ⟨by rw [HR.out]; rfl, by rw [HR.out]; exact HF.out⟩
    · have hkn : k = n := by omega
      subst hkn
      have e : L.take k = L := List.take_of_length_le (by rw [HN.out]; exact Nat.le_refl _)
      have HE : Hid ((D.wrs L).1 = 0) := by show _ = _; rw [← e]; exact HK.out
      have HF : Hid (Leaves S w wr p (D.wrs L).2) := by have := HL.out; rw [e] at this; exact this
      clear e
      go_wp2
      go_ret
      exact ⟨by rw [HE.out]; rfl, HF.out⟩

set_option maxRecDepth 100000 in
set_option maxHeartbeats 400000 in
theorem writeAll_none (ao : Option Addr) (c : Nat) :
    Calls Try.prog 64 #[.pointer (some ⟨a, 0, none⟩), .slice ao 0 c] w fun e w' => e = .returned (.int .i64 0) ∧ w = w' := by
  go_enter Try.func64, Try.ntmps64
  go_wp2
  go_loopw [10] (fun i wr => i = .int .i64 0 ∧ wr = w) (fun _ _ => 0)
  case atStart => exact ⟨rfl, rfl⟩
  case round =>
    obtain ⟨rfl, rfl⟩ := hrel
    go_wp2
    go_ret
    exact ⟨rfl, rfl⟩

theorem writeAll_any (hj : Jr 85 w a p J) (hd : Stands S w p D) (ha : ¬ S a) (hl : L.length ≤ 10000) (hp : D.pend.length ≤ 900000) (h : SlW w v L) (hs : Outs S v) :
    Calls Try.prog 64 #[.pointer (some ⟨a, 0, none⟩), v] w fun e w' => e = .returned (.int .i64 (D.wrs L).1) ∧ Leaves S w w' p (D.wrs L).2 := by
  by_cases h0 : L = []
  · obtain ⟨ao, c, rfl, _⟩ := h
    subst h0
    exact (writeAll_none ao c).mono fun e w' ⟨he, hw⟩ => by subst hw; exact ⟨he, .mk hd (Only.refl _ _)⟩
  · obtain ⟨b, off, c, rfl, _, hb, hc⟩ := h.here (List.length_pos_iff.2 h0)
    exact writeAll_some b off c hj hd ha hl hp hb hc (hs b off _ _ rfl)

set_option maxRecDepth 100000 in
set_option maxHeartbeats 1000000 in
theorem jsettle_any (hj : Jr 85 w a p J) (hd : Stands S w p D) (ha : ¬ S a) (hl : L.length ≤ 10000) (hp : D.pend.length ≤ 900000) (h : SlW w v L) (hs : Outs S v) :
    Calls Try.prog 56 #[.pointer (some ⟨a, 0, none⟩), v] w fun e w' => e = .returned (.int .i64 (D.stl L).1) ∧ Leaves S w w' p (D.stl L).2 := by
  have HW := Lib.hid (writeAll_any hj hd ha hl hp h hs)
  have hpl : (D.wrs L).2.pend.length ≤ 1000000 := by have := D.wrs_len L; omega
  have HP := Lib.hid hpl; clear hpl
  have HJ := Lib.hid hj; clear hj
  have HA := Lib.hid ha; clear ha
  obtain ⟨ao, c, rfl, _⟩ := h
  have HE : Hid (D.stl L = if (D.wrs L).1 ≠ 0 then D.wrs L else (D.wrs L).2.fl) := rfl
  generalize L.length = n at *
  clear hd hs hl hp
  generalize D.stl L = Z at *
  generalize D.wrs L = R at *
  obtain ⟨er, DR⟩ := R
  simp only at HW HP HE
  by_cases he : er = 0
  · have he' : (er != 0) = false := by simp [he]
    rw [if_neg (by simpa using he)] at HE
    go_enter Try.func56, Try.ntmps56
    go_wp2_with fail
    refine HW.out.mono ?_
    rintro e w1 ⟨rfl, hv⟩
    have c0 : w1.cell? ⟨a, 0, none⟩ = some (.pointer (some ⟨p, 0, none⟩)) := (hv.only.cell (p := ⟨a, 0, none⟩) HJ.out.lt HA.out).trans HJ.out.c0
    obtain ⟨S1, hS1, hs1, ho1⟩ := hv
    have HF : Hid (Calls Try.prog 40 #[.pointer (some ⟨p, 0, none⟩)] w1 fun e w' => e = .returned (.int .i64 DR.fl.1) ∧ Leaves S w w' p DR.fl.2) :=
      (flush_any HP.out hs1).mono fun e w' ⟨he, h1, h2⟩ => ⟨he, Leaves.next hS1 ho1 (.mk h1 h2)⟩
    clear hS1 hs1 ho1
    go_wp2_with fail
    refine HF.out.mono ?_
    rintro e w2 ⟨rfl, hv⟩
    have HV := Lib.hid hv; clear hv
    go_wp2
    go_ret
    exact ⟨by rw [HE.out]; rfl, by rw [HE.out]; exact HV.out⟩
  · have he' : (er != 0) = true := by simp [he]
    rw [if_pos (by simpa using he)] at HE
    go_enter Try.func56, Try.ntmps56
    go_wp2_with fail
    refine HW.out.mono ?_
    rintro e w1 ⟨rfl, hv⟩
    have HV := Lib.hid hv; clear hv
    go_wp2
    go_ret
    exact ⟨by rw [HE.out]; rfl, by rw [HE.out]; exact HV.out⟩
end
end Go.Proofs.Ytodfcbpimglhdaa
/- What Checkpoint, add and Commit keep: in plain lists. -/
namespace Go.Proofs.Ytodfcbpimglhdaa
open Go.RowKit
section
variable {J : JS} {D : DevS} {n : Nat} {L : List (Int × ByteArray)}

theorem JS.Ok.next' (h : J.Ok n) : J.next'.Ok n := by
  have hp := h.pos_lt 0
  exact ⟨h.l0, h.l1, by show J.pos 0 - 2 < J.log; omega, by show 1 - J.side ≤ 1; omega, Nat.zero_le _, Nat.mod_lt _ (by omega), h.n64, h.n64⟩
theorem JS.Ok.grow (h : J.Ok n) (m : Nat) (hm : J.full + m ≤ J.log) : (J.grow m).Ok n :=
  ⟨h.l0, h.l1, h.pl, h.si, hm, h.e64, h.s64, Nat.mod_lt _ (by omega)⟩
theorem JS.ckp_err (h : (J.ckp D).1 ≠ 0) : (J.ckp D).2.2 = J := by
  unfold JS.ckp at *
  simp only at *
  split
  · rfl
  · rename_i h1
    rw [if_neg h1] at h
    split
    · rfl
    · rename_i h2; rw [if_neg h2] at h; exact absurd rfl h
theorem JS.ckp_good (h : (J.ckp D).1 = 0) : (J.ckp D).2.2 = J.next' := by
  unfold JS.ckp at *
  simp only at *
  split
  · rename_i h1; rw [if_pos h1] at h; exact absurd h h1
  · rename_i h1
    rw [if_neg h1] at h
    split
    · rename_i h2; rw [if_pos h2] at h; exact absurd h h2
    · rfl
theorem JS.ckp_disk : (J.ckp D).2.1.disk.length = D.disk.length := by
  unfold JS.ckp
  simp only
  split
  · exact D.stl_disk _
  · split
    · rw [DevS.stl_disk, DevS.stl_disk]
    · rw [DevS.stl_disk, DevS.stl_disk]
theorem JS.ckp_len : (J.ckp D).2.1.pend.length ≤ D.pend.length + 2 := by
  unfold JS.ckp
  simp only
  split
  · have := D.stl_len [(((J.pos 0 : Nat) : Int), noughts)]; simp at this; show (D.stl [(((J.pos 0 : Nat) : Int), noughts)]).2.pend.length ≤ _; omega
  · have h1 := D.stl_len [(((J.pos 0 : Nat) : Int), noughts)]
    have h2 := (D.stl [(((J.pos 0 : Nat) : Int), noughts)]).2.stl_len [(((1 - J.side : Nat) : Int), slotB ((J.e + 1) % 18446744073709551616) J.next J.log (J.pos 0 - 2))]
    simp at h1 h2
    split <;> (simp only; omega)
theorem JS.addF_disk {top : ByteArray} {ds : List ByteArray} : (J.addF D top ds).2.1.disk.length = D.disk.length := by
  unfold JS.addF
  simp only
  split
  · exact D.stl_disk _
  · split
    · rw [DevS.stl_disk, DevS.stl_disk]
    · rw [DevS.stl_disk, DevS.stl_disk]
theorem JS.dataW_len (ds : List ByteArray) : (J.dataW ds).length = ds.length + 1 := by simp [JS.dataW]
theorem JS.addF_len {top : ByteArray} {ds : List ByteArray} : (J.addF D top ds).2.1.pend.length ≤ D.pend.length + ds.length + 2 := by
  unfold JS.addF
  simp only
  split
  · have := D.stl_len (J.dataW ds); rw [JS.dataW_len] at this; show (D.stl (J.dataW ds)).2.pend.length ≤ _; omega
  · have h1 := D.stl_len (J.dataW ds)
    have h2 := (D.stl (J.dataW ds)).2.stl_len [(((J.pos 0 : Nat) : Int), top)]
    rw [JS.dataW_len] at h1
    simp at h2
    split <;> (simp only; omega)
theorem JS.addF_err {top : ByteArray} {ds : List ByteArray} (h : (J.addF D top ds).1 ≠ 0) : (J.addF D top ds).2.2 = J := by
  unfold JS.addF at *
  simp only at *
  split
  · rfl
  · rename_i h1
    rw [if_neg h1] at h
    split
    · rfl
    · rename_i h2; rw [if_neg h2] at h; exact absurd rfl h
theorem JS.addF_good {top : ByteArray} {ds : List ByteArray} (h : (J.addF D top ds).1 = 0) : (J.addF D top ds).2.2 = J.grow (ds.length + 1) := by
  unfold JS.addF at *
  simp only at *
  split
  · rename_i h1; rw [if_pos h1] at h; exact absurd h h1
  · rename_i h1
    rw [if_neg h1] at h
    split
    · rename_i h2; rw [if_pos h2] at h; exact absurd h h2
    · rfl
end
end Go.Proofs.Ytodfcbpimglhdaa
