/- A device and the document's device side by side: what is done to the one leaves the other alone. -/
import Derived.Test.YtpoekkclkohanaaZVOpen
import Derived.Test.YtpoekkclkohanaaZJOpen
import Derived.Test.YtpoekkclkohanaaZAt
import Derived.Test.YtpoekkclkohanaaZLHelp

namespace Go.Proofs.Ytpoekkclkohanaa
open Go.RowKit
open Fr (SlS)

/-- Behind world w0 block p is a device that says D, block r the document's, that says E; what was there in w0 is as it was. -/
structure Bo (w0 w : World) (S1 S2 : Nat → Prop) (p : Nat) (D : DevS) (r : Nat) (E : DevS) : Prop where
  d : Stands S1 w p D
  e : RStands S2 w r E
  dis : ∀ k, S1 k → ¬ S2 k
  o1 : ∀ k, S1 k → w0.heap.size ≤ k
  o2 : ∀ k, S2 k → w0.heap.size ≤ k
  bel : Below w0.heap.size w0 w
section
variable {w0 w w' : World} {S1 S2 : Nat → Prop} {p r : Nat} {D E D' E' : DevS}
theorem Bo.below (h : Bo w0 w S1 S2 p D r E) (hb : Below w.heap.size w w') : Bo w0 w' S1 S2 p D r E :=
  ⟨h.d.below hb, h.e.below hb, h.dis, h.o1, h.o2, h.bel.trans (hb.mono h.bel.size)⟩
theorem below_only {T : Nat → Prop} (h : Below w0.heap.size w0 w) (ho : Only T w w') (hT : ∀ k, T k → w0.heap.size ≤ k) : Below w0.heap.size w0 w' := by
  refine ⟨ho.os.trans h.os, ho.tape.trans h.tape, ho.output.trans h.output, Nat.le_trans h.size ho.size, fun k hk => ?_⟩
  rw [ho.block k (Nat.lt_of_lt_of_le hk h.size) (fun ht => by have := hT k ht; omega), h.block k hk]
theorem Bo.one (h : Bo w0 w S1 S2 p D r E) {S : Nat → Prop} (hS : ∀ k, S k → S1 k ∨ w.heap.size ≤ k) (hd : Stands S w' p D') (ho : Only S1 w w') : Bo w0 w' S S2 p D' r E := by
  refine ⟨hd, h.e.kept ho (fun k hk h1 => h.dis k h1 hk), fun k hk h2 => ?_, fun k hk => ?_, h.o2, below_only h.bel ho h.o1⟩
  · rcases hS k hk with h1 | h1
    · exact h.dis k h1 h2
    · have := h.e.lt k h2; omega
  · rcases hS k hk with h1 | h1
    · exact h.o1 k h1
    · exact Nat.le_trans h.bel.size h1
theorem Bo.two (h : Bo w0 w S1 S2 p D r E) {S : Nat → Prop} (hS : ∀ k, S k → S2 k ∨ w.heap.size ≤ k) (hd : RStands S w' r E') (ho : Only S2 w w') : Bo w0 w' S1 S p D r E' := by
  refine ⟨h.d.kept ho (fun k hk h1 => h.dis k hk h1), hd, fun k hk h2 => ?_, h.o1, fun k hk => ?_, below_only h.bel ho h.o2⟩
  · rcases hS k h2 with h1 | h1
    · exact h.dis k hk h1
    · have := h.d.lt k hk; omega
  · rcases hS k hk with h1 | h1
    · exact h.o2 k h1
    · exact Nat.le_trans h.bel.size h1
theorem Bo.write (h : Bo w0 w S1 S2 p D r E) (i : Int) (s : ByteArray) (hp : D.pend.length ≤ 1000000) : Calls Try.prog 8 #[.pointer (some ⟨p, 0, none⟩), .int .i64 i, .string s] w fun e w' => e = .returned (.int .i64 (D.wr i s).1) ∧ ∃ S, Bo w0 w' S S2 p (D.wr i s).2 r E :=
  (write_any i s hp h.d).mono fun e w' ⟨he, S, h1, h2, h3⟩ => ⟨he, S, h.one h1 h2 h3⟩
theorem Bo.rwrite (h : Bo w0 w S1 S2 p D r E) (i : Int) (s : ByteArray) (hp : E.pend.length ≤ 1000000) : Calls Try.prog 10 #[.pointer (some ⟨r, 0, none⟩), .int .i64 i, .string s] w fun e w' => e = .returned (.int .i64 (E.wr i s).1) ∧ ∃ S, Bo w0 w' S1 S p D r (E.wr i s).2 :=
  (rwrite_any i s hp h.e).mono fun e w' ⟨he, S, h1, h2, h3⟩ => ⟨he, S, h.two h1 h2 h3⟩
theorem opn_pend (D : DevS) : D.opn.2.1.pend.length ≤ D.pend.length + D.disk.length + 2 := by
  unfold DevS.opn
  split
  · show D.pend.length ≤ _; omega
  · split
    · show D.pend.length ≤ _; omega
    · rename_i J hJ
      obtain ⟨ok, _⟩ := find_ok hJ
      obtain ⟨h1, h2, h3⟩ := redoN_keeps (J.log + 1) J D ok
      have hl : J.left ≤ J.log := Nat.sub_le _ _
      have hl1 := ok.l1
      have e : J.redo D = J.redoN D (J.log + 1) := rfl
      simp only
      rw [e]
      split
      · show (J.redoN D (J.log + 1)).2.1.pend.length ≤ _; omega
      · have hc := JS.ckp_len (J := (J.redoN D (J.log + 1)).2.2) (D := (J.redoN D (J.log + 1)).2.1)
        split
        · show ((J.redoN D (J.log + 1)).2.2.ckp (J.redoN D (J.log + 1)).2.1).2.1.pend.length ≤ _; omega
        · show ((J.redoN D (J.log + 1)).2.2.ckp (J.redoN D (J.log + 1)).2.1).2.1.pend.length ≤ _; omega
/-- Open errs, and there is no journal; or it does not, and there is one. -/
theorem opn_cases (D : DevS) : (D.opn.2.2 = none ∧ D.opn.1 ≠ 0) ∨ (∃ J, D.opn.2.2 = some J ∧ D.opn.1 = 0) := by
  unfold DevS.opn
  split
  · left; exact ⟨rfl, by simp⟩
  · split
    · left; exact ⟨rfl, by simp⟩
    · simp only
      split
      · rename_i h; left; exact ⟨rfl, h⟩
      · split
        · rename_i h; left; exact ⟨rfl, h⟩
        · right; exact ⟨_, rfl, rfl⟩
end
end Go.Proofs.Ytpoekkclkohanaa
