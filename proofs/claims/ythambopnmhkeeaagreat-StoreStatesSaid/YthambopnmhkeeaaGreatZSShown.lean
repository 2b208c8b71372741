/- The chapter's examples of a store: shown answers true. -/
import Derived.Test.YthambopnmhkeeaaGreatZSForm
import Derived.Test.YthambopnmhkeeaaGreatZCDirty
import Derived.Test.YthambopnmhkeeaaGreatZJSlot

namespace Go.Proofs.YthambopnmhkeeaaGreat
open Go.RowKit

def Sw (w W : World) (s p : Nat) (P : TS) (N mi : Nat) : Prop := ∃ S : Nat -> Prop, (∀ k, S k -> w.heap.size <= k) /\ St S W s p P N mi /\ Below w.heap.size w W
section
variable {w W w' : World} {s p N N' mi mi' : Nat} {P P' : TS} {f : FuncId} {args : Array Value} {r : Value}
theorem Sw.bel (h : Sw w W s p P N mi) : Below w.heap.size w W := by obtain ⟨S, _, _, h⟩ := h; exact h
theorem Sw.leaves {S : Nat -> Prop} (h1 : ∀ k, S k -> w.heap.size <= k) (h3 : Below w.heap.size w W) (hl : StL S W w' s p P' N' mi') : Sw w w' s p P' N' mi' := by
  obtain ⟨S', i1, i2, i3⟩ := hl
  refine ⟨S', fun k hk => ?_, i2, h3.trans (i3.below h3.size (fun k _ hk => h1 k hk))⟩
  rcases i1 k hk with a | a
  . exact h1 k a
  . have := h3.size; omega
theorem Sw.below (h : Sw w W s p P N mi) (hb : Below W.heap.size W w') : Sw w w' s p P N mi := by
  obtain ⟨S, h1, h2, h3⟩ := h
  exact ⟨S, h1, h2.below hb, h3.trans (hb.mono h3.size)⟩
theorem Sw.call (h : Sw w W s p P N mi) (hc : ∀ S, St S W s p P N mi -> Calls Tryz.prog f args W fun e w' => e = .returned r /\ Hid (StL S W w' s p P' N' mi')) :
    Calls Tryz.prog f args W fun e w' => e = .returned r /\ Hid (Sw w w' s p P' N' mi') := by
  obtain ⟨S, h1, h2, h3⟩ := h
  exact (hc S h2).mono fun e w' ⟨he, hl⟩ => ⟨he, Sw.leaves h1 h3 hl.out⟩
theorem Sw.alloc (h : Sw w W s p P N mi) (k : Int) (hk : -9223372036854775808 <= k /\ k <= 9223372036854775807) {a e : Int} (hP : P.alloc k = ((a, e), P')) :
    Calls Tryz.prog 39 #[.pointer (some ⟨s, 0, none⟩), .int .i64 k] W fun x w' => x = .returned (.tuple #[.int .i64 a, .int .i64 e]) /\ Hid (Sw w w' s p P' N mi) :=
  h.call fun S m => by have := salloc_any m k hk; rw [hP] at this; exact this
theorem Sw.begin_ (h : Sw w W s p P N mi) {e : Int} (hP : P.begin_ = (e, P')) :
    Calls Tryz.prog 38 #[.pointer (some ⟨s, 0, none⟩)] W fun x w' => x = .returned (.int .i64 e) /\ Hid (Sw w w' s p P' N mi) :=
  h.call fun S m => by have := sbegin_any m; rw [hP] at this; exact this
theorem Sw.write (h : Sw w W s p P N mi) (i : Int) (hi : -9223372036854775808 <= i /\ i <= 9223372036854775807) (d : ByteArray) (hd : d.size <= maxLen) {e : Int} (hP : P.write i d = (e, P')) :
    Calls Tryz.prog 42 #[.pointer (some ⟨s, 0, none⟩), .int .i64 i, .string d] W fun x w' => x = .returned (.int .i64 e) /\ Hid (Sw w w' s p P' N mi) :=
  h.call fun S m => by have := swrite_any m i hi d hd; rw [hP] at this; exact this
theorem Sw.release (h : Sw w W s p P N mi) (i k : Int) (hi : -9223372036854775808 <= i /\ i <= 9223372036854775807) (hk : -9223372036854775808 <= k /\ k <= 9223372036854775807) {e : Int} (hP : P.release i k = (e, P')) :
    Calls Tryz.prog 40 #[.pointer (some ⟨s, 0, none⟩), .int .i64 i, .int .i64 k] W fun x w' => x = .returned (.int .i64 e) /\ Hid (Sw w w' s p P' N mi) :=
  h.call fun S m => by have := srelease_any m i k hi hk; rw [hP] at this; exact this
theorem Sw.abort (h : Sw w W s p P N mi) (hP : P.undo = P') :
    Calls Tryz.prog 37 #[.pointer (some ⟨s, 0, none⟩)] W fun x w' => x = .returned (.tuple #[]) /\ Hid (Sw w w' s p P' N mi) :=
  h.call fun S m => by have := sabort_any m; rw [hP] at this; exact this
theorem Sw.read (h : Sw w W s p P N mi) (i : Int) (hi : -9223372036854775808 <= i /\ i <= 9223372036854775807) (hm : mi < 1000000) {t : ByteArray} {e : Int} (hP : P.read i = (t, e)) :
    Calls Tryz.prog 41 #[.pointer (some ⟨s, 0, none⟩), .int .i64 i] W fun x w' => x = .returned (.tuple #[.string t, .int .i64 e]) /\ Hid (Sw w w' s p P N (mi + 1)) :=
  h.call fun S m => by have := sread_any m i hi hm; rw [hP] at this; exact this
theorem Sw.commit (h : Sw w W s p P N mi) (hN : N + 2 <= 10000) {e : Int} (hP : P.commit = (e, P')) :
    Calls Tryz.prog 44 #[.pointer (some ⟨s, 0, none⟩)] W fun x w' => x = .returned (.int .i64 e) /\ ∃ N', N' <= N + 2 /\ Hid (Sw w w' s p P' N' mi) := by
  obtain ⟨S, h1, h2, h3⟩ := h
  have := scommit_any h2 hN
  rw [hP] at this
  exact this.mono fun e w' ⟨he, N', hN', hl⟩ => ⟨he, N', hN', Sw.leaves h1 h3 hl.out⟩
theorem Sw.first (h : Sw w W s p P N mi) : Calls Tryz.prog 32 #[.pointer (some ⟨s, 0, none⟩)] W fun e w' => e = .returned (.int .i64 (firstD P.n : Nat)) /\ W = w' := by
  obtain ⟨S, _, ⟨SH, SC, h, c, C, a, _⟩, _⟩ := h
  exact sfirst_any a
theorem Sw.free (h : Sw w W s p P N mi) : Calls Tryz.prog 17 #[.pointer (some ⟨s, 0, none⟩)] W fun e w' => e = .returned (.int .i64 (Bm.fr P.bits P.n : Nat)) /\ Hid (Sw w w' s p P N mi) := by
  have h0 := h
  obtain ⟨S, _, m, _⟩ := h
  exact (sfree_any m).mono fun e w' ⟨he, hb⟩ => ⟨he, h0.below hb.out⟩
theorem Sw.used (h : Sw w W s p P N mi) : Calls Tryz.prog 22 #[.pointer (some ⟨s, 0, none⟩)] W fun e w' => ∃ v, e = .returned v /\ Hid (Bm.OwnX W.heap.size w' v (Bm.rs (Bm.stL (turnB P.bits) 0 true (firstD P.n)) P.n)) /\ Hid (Sw w w' s p P N mi) := by
  have h0 := h
  obtain ⟨S, _, m, _⟩ := h
  exact (sused_any m).mono fun e w' ⟨v, he, hx, hb⟩ => ⟨v, he, hx, h0.below hb.out⟩
theorem Sw.state (h : Sw w W s p P N mi) (hm : mi + 4096 < 1000000) : Calls Tryz.prog 35 #[.pointer (some ⟨s, 0, none⟩)] W fun e w' => e = .returned (.string (txt P.stateL)) /\ Hid (Sw w w' s p P N (mi + 4096)) :=
  h.call fun S m => state_any m hm

set_option maxRecDepth 100000 in
set_option maxHeartbeats 4000000 in
theorem shown7_any (w : World) : Calls Tryz.prog 10 #[] w fun e w' => e = .returned (.bool true) /\ Hid (Below w.heap.size w w') := by
  obtain ⟨P1, P2, P3, P4, P5, P6, P7, h⟩ := shows (fl7 97) (fl7_size _)
  have CF := Lib.hid (formatted_any 128 (by omega) (by omega) 64 (by omega) (by omega) w)
  have HF : Hid (∀ W, Calls Tryz.prog 43 #[.int .u8 97] W fun e w' => e = .returned (.string (fl7 97)) /\ Below W.heap.size W w') := fun W => full7_any 97 W
  generalize TS.opened 128 (H0 128) = P0 at *
  have HH := Lib.hid h
  have hfl : (fl7 97).size <= maxLen := by rw [fl7_size]; decide
  clear h
  generalize fl7 97 = T at *
  go_enter Tryz.func10, Tryz.ntmps10
  go_wp2_with fail
  refine CF.out.mono ?_
  rintro e w1 ⟨p, s, S, rfl, hf1⟩
  have HS1 : Hid (Sw w w1 s p P0 5 0) := ⟨S, hf1.out.1, hf1.out.2.1, hf1.out.2.2.1⟩
  clear hf1 CF
  have C1 := Lib.hid HS1.out.first
  rw [HH.out.n0, m_first] at C1
  go_wp2_with fail
  refine C1.out.mono ?_
  rintro e w1' ⟨rfl, rfl⟩
  have C2 := Lib.hid HS1.out.free
  rw [HH.out.fr0] at C2
  go_wp2_with fail
  refine C2.out.mono ?_
  rintro e w2 ⟨rfl, HS2⟩
  clear C1 C2 HS1
  have C3 := Lib.hid (HS2.out.alloc 2 (by omega) HH.out.al0)
  go_wp2_with fail
  refine C3.out.mono ?_
  rintro e w3 ⟨rfl, HS3⟩
  clear C3 HS2
  have C4 := Lib.hid (HS3.out.begin_ HH.out.be0)
  go_wp2_with fail
  refine C4.out.mono ?_
  rintro e w4 ⟨rfl, HS4⟩
  clear C4 HS3
  have C5 := Lib.hid (HS4.out.alloc 2 (by omega) HH.out.al1)
  go_wp2_with fail
  refine C5.out.mono ?_
  rintro e w5 ⟨rfl, HS5⟩
  clear C5 HS4
  go_wp2_with fail
  refine (HF.out _).mono ?_
  rintro e w6 ⟨rfl, hb6⟩
  have HS6 := Lib.hid (HS5.out.below hb6)
  clear hb6 HS5
  have C7 := Lib.hid (HS6.out.write 64 (by omega) T hfl HH.out.wr2)
  go_wp2_with fail
  refine C7.out.mono ?_
  rintro e w7 ⟨rfl, HS7⟩
  clear C7 HS6
  go_wp2_with fail
  refine (HF.out _).mono ?_
  rintro e w8 ⟨rfl, hb8⟩
  have HS8 := Lib.hid (HS7.out.below hb8)
  clear hb8 HS7
  have C9 := Lib.hid (HS8.out.write 66 (by omega) T hfl HH.out.wr3)
  go_wp2_with fail
  refine C9.out.mono ?_
  rintro e w9 ⟨rfl, HS9⟩
  clear C9 HS8
  have C10 := Lib.hid (HS9.out.commit (by omega) HH.out.co3)
  go_wp2_with fail
  refine C10.out.mono ?_
  rintro e w10 ⟨rfl, N', hN', HS10⟩
  clear C10 HS9
  have C11 := Lib.hid HS10.out.used
  rw [HH.out.us4] at C11
  go_wp2_with fail
  refine C11.out.mono ?_
  rintro e w11 ⟨v, rfl, HX, HS11⟩
  clear C11
  obtain ⟨g, vc, hv, _, _, _, hx, _⟩ := HX.out.here (by simp)
  subst hv
  have e0 := (hx 0 (by simp)).1
  have e1 := (hx 0 (by simp)).2
  simp at e0 e1
  clear hx HS10
  have C12 := Lib.hid (HS11.out.begin_ HH.out.be4)
  go_wp2_with fail
  refine C12.out.mono ?_
  rintro e w12 ⟨rfl, HS12⟩
  clear C12 HS11
  have C13 := Lib.hid (HS12.out.release 64 1 (by omega) (by omega) HH.out.re5)
  go_wp2_with fail
  refine C13.out.mono ?_
  rintro e w13 ⟨rfl, HS13⟩
  clear C13 HS12
  have C14 := Lib.hid (HS13.out.alloc 64 (by omega) HH.out.al6)
  go_wp2_with fail
  refine C14.out.mono ?_
  rintro e w14 ⟨rfl, HS14⟩
  clear C14 HS13
  have C15 := Lib.hid (HS14.out.abort HH.out.un6)
  go_wp2_with fail
  refine C15.out.mono ?_
  rintro e w15 ⟨rfl, HS15⟩
  clear C15 HS14
  have C16 := Lib.hid (HS15.out.read 64 (by omega) (by omega) HH.out.rd7)
  go_wp2_with fail
  refine C16.out.mono ?_
  rintro e w16 ⟨rfl, HS16⟩
  clear C16 HS15
  have C17 := Lib.hid HS16.out.free
  rw [HH.out.fr7] at C17
  go_wp2_with fail
  refine C17.out.mono ?_
  rintro e w17 ⟨rfl, HS17⟩
  clear C17 HS16
  go_wp2_with fail
  refine (HF.out _).mono ?_
  rintro e w18 ⟨rfl, hb18⟩
  have HB18 : Hid (Below w.heap.size w w18) := HS17.out.bel.trans (hb18.mono HS17.out.bel.size)
  clear hb18 HS17
  go_wp2
  go_ret
  exact ⟨rfl, HB18⟩
end
end Go.Proofs.YthambopnmhkeeaaGreat
/- The document's own Open, in plain lists: which slot counts, looked for from block 1 down to block 0; the journal in memory before a slot is found. -/
namespace Go.Proofs.YthambopnmhkeeaaGreat
open Go.RowKit

def DevS.bestV (D : DevS) : Nat -> Option ((Nat × Nat × Nat × Nat) × Nat)
  | 0 => none
  | 1 => (D.slotAt 1).map fun y => (y, 1)
  | _ => match D.slotAt 0, D.slotAt 1 with
    | none, none => none
    | some x, none => some (x, 0)
    | none, some y => some (y, 1)
    | some x, some y => if y.1 <= x.1 then some (x, 0) else some (y, 1)
theorem find_bestV (D : DevS) : D.find = (D.bestV 2).map (fun x => slotJ x.1 x.2) := by
  unfold DevS.find
  show _ = Option.map _ (match D.slotAt 0, D.slotAt 1 with
    | none, none => none
    | some x, none => some (x, 0)
    | none, some y => some (y, 1)
    | some x, some y => if y.1 <= x.1 then some (x, 0) else some (y, 1))
  cases D.slotAt 0 with
  | none => cases D.slotAt 1 <;> rfl
  | some x =>
    cases D.slotAt 1 with
    | none => rfl
    | some y =>
      show (if x.1 < y.1 then _ else _) = Option.map _ (if y.1 <= x.1 then _ else _)
      by_cases h : x.1 < y.1
      . rw [if_pos h, if_neg (by omega)]; rfl
      . rw [if_neg h, if_pos (by omega)]; rfl
theorem bestV_none (D : DevS) (k : Nat) (hk : k < 2) (h : D.slotAt (1 - k) = none) : D.bestV (k + 1) = D.bestV k := by
  rcases (show k = 0 \/ k = 1 by omega) with rfl | rfl
  . show (D.slotAt 1).map _ = none
    rw [show D.slotAt 1 = none from h]; rfl
  . have h0 : D.slotAt 0 = none := h
    show (match D.slotAt 0, D.slotAt 1 with
      | none, none => none
      | some x, none => some (x, 0)
      | none, some y => some (y, 1)
      | some x, some y => if y.1 <= x.1 then some (x, 0) else some (y, 1)) = (D.slotAt 1).map _
    rw [h0]
    cases D.slotAt 1 <;> rfl
theorem bestV_some (D : DevS) (k : Nat) (hk : k < 2) {x : Nat × Nat × Nat × Nat} (h : D.slotAt (1 - k) = some x) : D.bestV (k + 1) = match D.bestV k with | none => some (x, 1 - k) | some y => if y.1.1 <= x.1 then some (x, 1 - k) else some y := by
  rcases (show k = 0 \/ k = 1 by omega) with rfl | rfl
  . show (D.slotAt 1).map _ = some (x, 1)
    rw [show D.slotAt 1 = some x from h]; rfl
  . have h0 : D.slotAt 0 = some x := h
    show (match D.slotAt 0, D.slotAt 1 with
      | none, none => none
      | some x, none => some (x, 0)
      | none, some y => some (y, 1)
      | some x, some y => if y.1 <= x.1 then some (x, 0) else some (y, 1)) = match (D.slotAt 1).map (fun y => (y, 1)) with | none => some (x, 0) | some y => if y.1.1 <= x.1 then some (x, 0) else some y
    rw [h0]
    cases D.slotAt 1 <;> rfl

def VCells (r : Nat) : Option ((Nat × Nat × Nat × Nat) × Nat) -> Array Value
  | none => #[.pointer (some ⟨r, 0, none⟩), .int .u64 0, .int .u64 0, .int .i64 0, .int .i64 0, .int .i64 (-1), .int .u64 0, .int .i64 0]
  | some x => #[.pointer (some ⟨r, 0, none⟩), .int .u64 (x.1.1 : Int), .int .u64 (x.1.2.1 : Int), .int .i64 (x.1.2.2.1 : Int), .int .i64 (x.1.2.2.2 : Int), .int .i64 (x.2 : Int), .int .u64 0, .int .i64 0]
def VJr (w : World) (a r : Nat) (o : Option ((Nat × Nat × Nat × Nat) × Nat)) : Prop := w.heap[a]? = some (.cells (VCells r o) 136 (0, 0))
section
variable {w w' : World} {a r : Nat} {o : Option ((Nat × Nat × Nat × Nat) × Nat)}
theorem VJr.lt (h : VJr w a r o) : a < w.heap.size := (Array.getElem?_eq_some_iff.1 h).1
theorem VJr.f (h : VJr w a r o) (i : Nat) : w.frozen? ⟨a, i, none⟩ = false := free_at h i
theorem VJr.below (h : VJr w a r o) (hb : Below w.heap.size w w') : VJr w' a r o := by unfold VJr; rw [hb.block a h.lt]; exact h
theorem VJr.c0 (h : VJr w a r o) : w.cell? ⟨a, 0, none⟩ = some (.pointer (some ⟨r, 0, none⟩)) := by rw [cell_at h]; cases o <;> rfl
def v1 : Option ((Nat × Nat × Nat × Nat) × Nat) -> Int | none => 0 | some x => (x.1.1 : Int)
def v2 : Option ((Nat × Nat × Nat × Nat) × Nat) -> Int | none => 0 | some x => (x.1.2.1 : Int)
def v3 : Option ((Nat × Nat × Nat × Nat) × Nat) -> Int | none => 0 | some x => (x.1.2.2.1 : Int)
def v4 : Option ((Nat × Nat × Nat × Nat) × Nat) -> Int | none => 0 | some x => (x.1.2.2.2 : Int)
def v5 : Option ((Nat × Nat × Nat × Nat) × Nat) -> Int | none => -1 | some x => (x.2 : Int)
theorem VJr.c1 (h : VJr w a r o) : w.cell? ⟨a, 1, none⟩ = some (.int .u64 (v1 o)) := by rw [cell_at h]; cases o <;> rfl
theorem VJr.c2 (h : VJr w a r o) : w.cell? ⟨a, 2, none⟩ = some (.int .u64 (v2 o)) := by rw [cell_at h]; cases o <;> rfl
theorem VJr.c3 (h : VJr w a r o) : w.cell? ⟨a, 3, none⟩ = some (.int .i64 (v3 o)) := by rw [cell_at h]; cases o <;> rfl
theorem VJr.c4 (h : VJr w a r o) : w.cell? ⟨a, 4, none⟩ = some (.int .i64 (v4 o)) := by rw [cell_at h]; cases o <;> rfl
theorem VJr.c5 (h : VJr w a r o) : w.cell? ⟨a, 5, none⟩ = some (.int .i64 (v5 o)) := by rw [cell_at h]; cases o <;> rfl
theorem VJr.c6 (h : VJr w a r o) : w.cell? ⟨a, 6, none⟩ = some (.int .u64 0) := by rw [cell_at h]; cases o <;> rfl
theorem VJr.sl (h : VJr w a r o) (x : Nat × Nat × Nat × Nat) (k : Nat) : VJr (slW w a x k) a r (some (x, k)) := by
  unfold VJr at h ⊢
  have h1 := heap_setCell_at (i := 1) h (.int .u64 (x.1 : Int))
  have h2 := heap_setCell_at (i := 2) h1 (.int .u64 (x.2.1 : Int))
  have h3 := heap_setCell_at (i := 3) h2 (.int .i64 (x.2.2.1 : Int))
  have h4 := heap_setCell_at (i := 4) h3 (.int .i64 (x.2.2.2 : Int))
  have h5 := heap_setCell_at (i := 5) h4 (.int .i64 (k : Int))
  rw [h5]
  cases o <;> simp [VCells]
theorem VJr.found {x : (Nat × Nat × Nat × Nat) × Nat} (h : VJr w a r (some x)) : Jr 136 (w.setCell ⟨a, 6, none⟩ (.int .u64 (x.1.2.1 : Int))) a r (slotJ x.1 x.2) := by
  unfold VJr at h
  unfold Jr
  rw [heap_setCell_at h]
  simp [VCells, JCells, slotJ]
end
end Go.Proofs.YthambopnmhkeeaaGreat
