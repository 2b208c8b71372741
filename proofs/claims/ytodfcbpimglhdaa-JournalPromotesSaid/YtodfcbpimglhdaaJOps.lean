/- What Checkpoint, add and Commit keep: in plain lists. -/
import Derived.Test.YtodfcbpimglhdaaJBase
namespace Go.Proofs.Ytodfcbpimglhdaa
open Go.RowKit
section
variable {J : JS} {D : DevS} {n : Nat} {L : List (Int × ByteArray)}

theorem JS.Ok.next' (h : J.Ok n) : J.next'.Ok n := by
  have hp := h.pos_lt 0
  exact ⟨h.l0, h.l1, by show J.pos 0 - 2 < J.log; omega, by show 1 - J.side ≤ 1; omega, Nat.zero_le _, Nat.mod_lt _ (by omega), h.n64, h.n64⟩
theorem JS.Ok.grow (h : J.Ok n) (m : Nat) (hm : J.full + m ≤ J.log) : (J.grow m).Ok n :=
  ⟨h.l0, h.l1, h.pl, h.si, hm, h.e64, h.s64, Nat.mod_lt _ (by omega)⟩
theorem JS.ckp_err (h : (J.ckp D).1 ≠ 0) : (J.ckp D).2.2 = J := by
  unfold JS.ckp at *
  simp only at *
  split
  · rfl
  · rename_i h1
    rw [if_neg h1] at h
    split
    · rfl
    · rename_i h2; rw [if_neg h2] at h; exact absurd rfl h
theorem JS.ckp_good (h : (J.ckp D).1 = 0) : (J.ckp D).2.2 = J.next' := by
  unfold JS.ckp at *
  simp only at *
  split
  · rename_i h1; rw [if_pos h1] at h; exact absurd h h1
  · rename_i h1
    rw [if_neg h1] at h
    split
    · rename_i h2; rw [if_pos h2] at h; exact absurd h h2
    · rfl
theorem JS.ckp_disk : (J.ckp D).2.1.disk.length = D.disk.length := by
  unfold JS.ckp
  simp only
  split
  · exact D.stl_disk _
  · split
    · rw [DevS.stl_disk, DevS.stl_disk]
    · rw [DevS.stl_disk, DevS.stl_disk]
theorem JS.ckp_len : (J.ckp D).2.1.pend.length ≤ D.pend.length + 2 := by
  unfold JS.ckp
  simp only
  split
  · have := D.stl_len [(((J.pos 0 : Nat) : Int), noughts)]; simp at this; show (D.stl [(((J.pos 0 : Nat) : Int), noughts)]).2.pend.length ≤ _; omega
  · have h1 := D.stl_len [(((J.pos 0 : Nat) : Int), noughts)]
    have h2 := (D.stl [(((J.pos 0 : Nat) : Int), noughts)]).2.stl_len [(((1 - J.side : Nat) : Int), slotB ((J.e + 1) % 18446744073709551616) J.next J.log (J.pos 0 - 2))]
    simp at h1 h2
    split <;> (simp only; omega)
theorem JS.addF_disk {top : ByteArray} {ds : List ByteArray} : (J.addF D top ds).2.1.disk.length = D.disk.length := by
  unfold JS.addF
  simp only
  split
  · exact D.stl_disk _
  · split
    · rw [DevS.stl_disk, DevS.stl_disk]
    · rw [DevS.stl_disk, DevS.stl_disk]
theorem JS.dataW_len (ds : List ByteArray) : (J.dataW ds).length = ds.length + 1 := by simp [JS.dataW]
theorem JS.addF_len {top : ByteArray} {ds : List ByteArray} : (J.addF D top ds).2.1.pend.length ≤ D.pend.length + ds.length + 2 := by
  unfold JS.addF
  simp only
  split
  · have := D.stl_len (J.dataW ds); rw [JS.dataW_len] at this; show (D.stl (J.dataW ds)).2.pend.length ≤ _; omega
  · have h1 := D.stl_len (J.dataW ds)
    have h2 := (D.stl (J.dataW ds)).2.stl_len [(((J.pos 0 : Nat) : Int), top)]
    rw [JS.dataW_len] at h1
    simp at h2
    split <;> (simp only; omega)
theorem JS.addF_err {top : ByteArray} {ds : List ByteArray} (h : (J.addF D top ds).1 ≠ 0) : (J.addF D top ds).2.2 = J := by
  unfold JS.addF at *
  simp only at *
  split
  · rfl
  · rename_i h1
    rw [if_neg h1] at h
    split
    · rfl
    · rename_i h2; rw [if_neg h2] at h; exact absurd rfl h
theorem JS.addF_good {top : ByteArray} {ds : List ByteArray} (h : (J.addF D top ds).1 = 0) : (J.addF D top ds).2.2 = J.grow (ds.length + 1) := by
  unfold JS.addF at *
  simp only at *
  split
  · rename_i h1; rw [if_pos h1] at h; exact absurd h h1
  · rename_i h1
    rw [if_neg h1] at h
    split
    · rename_i h2; rw [if_pos h2] at h; exact absurd h h2
    · rfl
end
end Go.Proofs.Ytodfcbpimglhdaa
