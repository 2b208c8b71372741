/- The device's methods over one device of the call's own: what was there when the call began is never touched. -/
import Derived.Test.YtodfcbpimglhdaaZSettle
import Derived.Test.YtodfcbpimglhdaaZNewD

namespace Go.Proofs.Ytodfcbpimglhdaa
open Go.RowKit

/-- Behind world w0 block p is a device that says D; what was there in w0 is as it was. -/
def At (w0 w : World) (p : Nat) (D : DevS) : Prop := ∃ S : Nat → Prop, (∀ k, S k → w0.heap.size ≤ k) ∧ Stands S w p D ∧ Below w0.heap.size w0 w

section
variable {w0 w w' : World} {p : Nat} {D : DevS}

theorem At.bel (h : At w0 w p D) : Below w0.heap.size w0 w := by obtain ⟨S, _, _, hb⟩ := h; exact hb
theorem At.ok (h : At w0 w p D) : D.Ok := by obtain ⟨S, _, hs, _⟩ := h; exact hs.ok
theorem At.below (h : At w0 w p D) (hb : Below w.heap.size w w') : At w0 w' p D := by
  obtain ⟨S, hS, hs, h0⟩ := h
  exact ⟨S, hS, hs.below hb, h0.trans (hb.mono h0.size)⟩
theorem At.of_fresh {w0 w w' : World} (hb : Below w0.heap.size w0 w) (h : Fresh w w' p D) : At w0 w' p D := by
  obtain ⟨S, hS, hs, hb'⟩ := h
  exact ⟨S, fun k hk => Nat.le_trans hb.size (hS k hk), hs, hb.trans (hb'.mono hb.size)⟩
theorem At.leaves {S : Nat → Prop} {D' : DevS} (hS : ∀ k, S k → w0.heap.size ≤ k) (h0 : Below w0.heap.size w0 w) (h : Leaves S w w' p D') : At w0 w' p D' := by
  obtain ⟨S', hS', hs, ho⟩ := h
  refine ⟨S', fun k hk => ?_, hs, h0.trans (ho.below h0.size (fun k _ hk => hS k hk))⟩
  rcases hS' k hk with h | h
  · exact hS k h
  · exact Nat.le_trans h0.size h

theorem At.new (n : Int) (h : 1 ≤ n ∧ n ≤ 4096) (hb : Below w0.heap.size w0 w) :
    Calls Try.prog 11 #[.int .i64 n] w fun e w' => ∃ p, e = .returned (.tuple #[.pointer (some ⟨p, 0, none⟩), .int .i64 0]) ∧ At w0 w' p (DevS.made n.toNat) :=
  (new_any n w h).mono fun _ _ ⟨p, he, hf⟩ => ⟨p, he, .of_fresh hb hf⟩
theorem At.read (i : Int) (hl : D.pend.length ≤ 1000000) (h : At w0 w p D) :
    Calls Try.prog 37 #[.pointer (some ⟨p, 0, none⟩), .int .i64 i] w fun e w' => e = .returned (.tuple #[.string (D.rd i).1, .int .i64 (D.rd i).2]) ∧ At w0 w' p D := by
  have h' := h
  obtain ⟨S, hS, hs, h0⟩ := h
  exact (read_any i hl hs).mono fun _ _ ⟨he, hb⟩ => ⟨he, h'.below hb⟩
theorem At.write (i : Int) (s : ByteArray) (hl : D.pend.length ≤ 1000000) (h : At w0 w p D) :
    Calls Try.prog 13 #[.pointer (some ⟨p, 0, none⟩), .int .i64 i, .string s] w fun e w' => e = .returned (.int .i64 (D.wr i s).1) ∧ At w0 w' p (D.wr i s).2 := by
  obtain ⟨S, hS, hs, h0⟩ := h
  exact (write_any i s hl hs).mono fun _ _ ⟨he, hv⟩ => ⟨he, .leaves hS h0 hv⟩
theorem At.flush (hl : D.pend.length ≤ 1000000) (h : At w0 w p D) :
    Calls Try.prog 40 #[.pointer (some ⟨p, 0, none⟩)] w fun e w' => e = .returned (.int .i64 D.fl.1) ∧ At w0 w' p D.fl.2 := by
  obtain ⟨S, hS, hs, h0⟩ := h
  exact (flush_any hl hs).mono fun _ _ ⟨he, h1, h2⟩ => ⟨he, .leaves hS h0 (.mk h1 h2)⟩
theorem At.fuse (n : Int) (hn : n ≤ 9223372036854775807) (h : At w0 w p D) :
    Calls Try.prog 27 #[.pointer (some ⟨p, 0, none⟩), .int .i64 n] w fun e w' => e = .returned (.tuple #[]) ∧ At w0 w' p (D.setFuse n) := by
  obtain ⟨S, hS, hs, h0⟩ := h
  exact (fuse_any n hn hs).mono fun _ _ ⟨he, h1, h2⟩ => ⟨he, .leaves hS h0 (.mk h1 h2)⟩
/-- A slice of bools that lies below w0's end, or in a block of one's own that is no device's. -/
def BoolsOut (w0 w : World) (v : Value) (kl : List Bool) : Prop :=
  ∃ ao cap, v = .slice ao kl.length cap ∧ (kl = [] ∨ ∃ g off, ao = some ⟨g, off, none⟩ ∧ g < w0.heap.size ∧ ∀ i (h : i < kl.length), w.cell? ⟨g, off + i, none⟩ = some (.bool kl[i]))
theorem At.crash (kl : List Bool) (torn cut : Int) (v : Value) (hl : D.pend.length ≤ 1000000) (hkl : kl.length ≤ 9223372036854775807) (h : At w0 w p D) (hv : BoolsOut w0 w v kl) :
    Calls Try.prog 31 #[.pointer (some ⟨p, 0, none⟩), v, .int .i64 torn, .int .i64 cut] w fun e w' => e = .returned (.tuple #[]) ∧ At w0 w' p (D.crash kl torn cut) := by
  obtain ⟨S, hS, hs, h0⟩ := h
  have hv' : Bools S w v kl := by
    obtain ⟨ao, cap, hv, h⟩ := hv
    refine ⟨ao, cap, hv, ?_⟩
    rcases h with h | ⟨g, off, ha, hg, hc⟩
    · exact .inl h
    · exact .inr ⟨g, off, ha, fun hs => by have := hS g hs; omega, hc⟩
  exact (crash_any kl torn cut v hl hkl hs hv').mono fun _ _ ⟨he, h1, h2⟩ => ⟨he, .leaves hS h0 (.mk h1 h2)⟩
/-- A crash whose list of one bool was made for it. -/
theorem At.crash_one (b : Bool) (torn cut : Int) (hl : D.pend.length ≤ 1000000) (h : At w0 w p D) :
    Calls Try.prog 31 #[.pointer (some ⟨p, 0, none⟩), .slice (some ⟨w.heap.size, 0, none⟩) 1 1, .int .i64 torn, .int .i64 cut] (w.alloc (.cells #[.bool b] 4)) fun e w' => e = .returned (.tuple #[]) ∧ At w0 w' p (D.crash [b] torn cut) := by
  obtain ⟨S, hS, hs, h0⟩ := h
  have hlt := hs.lt
  have hb : Below w.heap.size w (w.alloc (.cells #[.bool b] 4)) := (Below.refl _ _).alloc (Nat.le_refl _) _
  have hv' : Bools S (w.alloc (.cells #[.bool b] 4)) (.slice (some ⟨w.heap.size, 0, none⟩) 1 1) [b] := by
    refine ⟨_, 1, rfl, .inr ⟨w.heap.size, 0, rfl, fun hs => by have := hlt _ hs; omega, ?_⟩⟩
    intro i hi
    have : i = 0 := by simpa using hi
    subst this
    rw [cell_at (heap_alloc_new w _)]; rfl
  exact (crash_any [b] torn cut _ hl (by simp) (hs.below hb) hv').mono fun _ _ ⟨he, h1, h2⟩ => ⟨he, .leaves hS (h0.trans (hb.mono h0.size)) (.mk h1 h2)⟩
theorem At.dead (h : At w0 w p D) :
    Calls Try.prog 39 #[.pointer (some ⟨p, 0, none⟩)] w fun e w' => e = .returned (.bool D.dead) ∧ w = w' := by
  obtain ⟨S, hS, hs, h0⟩ := h; exact dead_any hs
theorem At.blocks (h : At w0 w p D) :
    Calls Try.prog 38 #[.pointer (some ⟨p, 0, none⟩)] w fun e w' => e = .returned (.int .i64 D.disk.length) ∧ w = w' := by
  obtain ⟨S, hS, hs, h0⟩ := h; exact blocks_any hs
theorem At.disk (h : At w0 w p D) :
    Calls Try.prog 19 #[.pointer (some ⟨p, 0, none⟩)] w fun e w' => ∃ v, e = .returned v ∧ w'.ownsRow w.heap.size 9 1 v D.disk.length (D.disk.map Value.string) ∧ Below w.heap.size w w' ∧ At w0 w' p D := by
  have h' := h
  obtain ⟨S, hS, hs, h0⟩ := h
  exact (disk_any hs).mono fun _ _ ⟨v, he, h1, h2⟩ => ⟨v, he, h1, h2, h'.below h2⟩
end
end Go.Proofs.Ytodfcbpimglhdaa
