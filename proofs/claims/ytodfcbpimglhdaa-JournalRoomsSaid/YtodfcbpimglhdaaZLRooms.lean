/- JournalRooms: a commit of an act's writes, in plain lists and in the statements' world. -/
import Derived.Test.YtodfcbpimglhdaaZP
import Derived.Test.YtodfcbpimglhdaaZLShown

namespace Go.Proofs.Ytodfcbpimglhdaa
open Go.RowKit
open Fr (SlW OwnW)

theorem tA_le (x : Int) (i : Nat) (d : ByteArray) : (tA x i d).size ≤ 256 := by
  unfold tA; simp only [ByteArray.size_extract]; omega
theorem Act4.wrs_len (A : Act4) : A.wrs.length ≤ 52 := by unfold Act4.wrs; rw [wrK_len]; omega
theorem Act4.wrs_size (A : Act4) : ∀ x ∈ A.wrs, x.2.size ≤ maxLen := fun x hx => by
  unfold Act4.wrs wrK at hx
  simp only [List.mem_map, List.mem_range] at hx
  obtain ⟨i, _, rfl⟩ := hx
  have := tA_le (A.blks.getD i 0) i A.data
  unfold maxLen
  simp only
  omega

section
variable {w0 w w1 w2 : World} {wb a p : Nat} {S : Nat → Prop} {J : JS} {D : DevS} {L : List (Int × ByteArray)} {u : Value}
/-- Commit of writes that lie in memory of their own. -/
theorem Wd.commitO (h : Wd w0 w wb a p S J D) (hb : Below w.heap.size w w1) (ho : OwnW w.heap.size w1 u L) (hb2 : Below w1.heap.size w1 w2) (ok : J.Ok D.disk.length) (hp : D.pend.length ≤ 700000) (hl : L.length ≤ 1000) (hs : ∀ x ∈ L, x.2.size ≤ maxLen) :
    Calls Try.prog 30 #[.pointer (some ⟨a, 0, none⟩), u] w2 fun e w' => e = .returned (.int .i64 (J.commit D L).1) ∧ ∃ S', Wd w0 w' wb a p S' (J.commit D L).2.2 (J.commit D L).2.1 := by
  have h2 := (h.below hb).below hb2
  have ho2 := ho.below hb2
  have hla := h.jr.lt
  have hsz := hb.size
  have hsz2 := hb2.size
  have hg' : ∀ g off n c, u = .slice (some ⟨g, off, none⟩) n c → w.heap.size ≤ g ∧ g < w2.heap.size := fun g off n c hu => ho2.lt g (by rw [hu]; rfl)
  refine (commit_any h2.jr h2.dev h2.na ok hp hl hs ho2.sl (fun g off n c hu hS => ?_) ⟨fun g off n c hu => (hg' g off n c hu).2, fun g off n c hu => ?_⟩).mono fun e w' ⟨he, hj⟩ => ⟨he, h2.jleaves hj⟩
  · have := h.dev.lt _ hS
    have := (hg' g off n c hu).1
    omega
  · have := (hg' g off n c hu).1
    omega
end

/-- A journal that is well, without a fuse; not too much is pending. -/
structure Run (N m : Nat) (J : JS) (D : DevS) (H : Nat → ByteArray) : Prop where
  sync : ∃ F, Sync N 70 J D H F
  fuse : D.fused = false
  pend : D.pend.length ≤ m
section
variable {J : JS} {D : DevS} {L : List (Int × ByteArray)} {N m : Nat} {H : Nat → ByteArray}
theorem Run.ok (h : Run N m J D H) : J.Ok D.disk.length := by
  obtain ⟨F, h1⟩ := h.sync
  rw [h1.pre.len]; exact h1.pre.good.ok
theorem Run.step (h : Run N m J D H) (hN : N + 2 < 1000000) (hl : L.length ≤ 52) :
    ((J.commit D L).1 ≠ 0 ∧ (J.commit D L).2.1 = D ∧ (J.commit D L).2.2 = J ∧ J.chk 70 L ≠ 0) ∨
      ((J.commit D L).1 = 0 ∧ (J.commit D L).2.2.next = J.next + 1 ∧ ((J.commit D L).2.2.full = J.full + (1 + L.length) ∨ (J.commit D L).2.2.full = 1 + L.length) ∧ (J.commit D L).2.2.full ≤ 50 ∧ Run (N + 2) (m + 108) (J.commit D L).2.2 (J.commit D L).2.1 (put H L) ∧ J.chk 70 L = 0) := by
  obtain ⟨⟨F, h1⟩, h2, h3⟩ := h
  have hln := h1.pre.len
  by_cases hc : J.chk 70 L = 0
  · right
    obtain ⟨a1, ⟨F', a2⟩, a3, a4⟩ := commit_sure h1 hN hc h2
    have hlen := commit_len J D L
    have hr := a2.pre.good.room
    have hlg := a2.pre.good.lg
    refine ⟨a1, ?_, ?_, by omega, ⟨⟨_, a2⟩, a4, by omega⟩, hc⟩
    · rw [a3]
      have := h1.pre.good.bnd.2
      have hb := h1.pre.good.big
      split <;> (show (J.next + 1) % 18446744073709551616 = _; omega)
    · rw [a3]
      split
      · right; show 0 + (L.length + 1) = _; omega
      · left; show J.full + (L.length + 1) = _; omega
  · left
    have hb := commit_bad J D L (by rw [hln]; exact hc)
    rw [hb, hln]
    exact ⟨by show ((J.chk 70 L : Nat) : Int) ≠ 0; omega, rfl, rfl, hc⟩
end
end Go.Proofs.Ytodfcbpimglhdaa
