/- Chapter 1's examples in plain lists: what each step answers. -/
import Derived.Test.YtlikbfdfaccekaaAt
import Derived.Test.YtlikbfdfaccekaaTexts
namespace Go.Proofs.Ytlikbfdfaccekaa
open Go.RowKit

theorem layB_all (x old : ByteArray) (hx : x.size = 256) (ho : old.size = 256) : layB x old 256 = x := by
  unfold layB
  rw [ho]
  apply ByteArray.ext
  have hx' : x.data.size = 256 := hx
  have e1 : x.data.extract 0 256 = x.data := by rw [← hx']; exact Array.extract_size
  have e2 : old.data.extract 256 256 = #[] := Array.extract_empty_of_stop_le_start (Nat.le_refl _)
  rw [ByteArray.data_append, ByteArray.data_extract, ByteArray.data_extract, e1, e2, Array.append_empty]
theorem layB_none (x old : ByteArray) : layB x old 0 = old := by
  unfold layB
  simp

section
variable (N A B : ByteArray)
theorem ex_r0 : (DevS.mk [N, N] [] false 0 false).rd 0 = (N, 0) := by simp [DevS.rd, DevS.ck, DevS.rdB]
theorem ex_w1 (hA : A.size = 256) : (DevS.mk [N, N] [] false 0 false).wr 0 A = (0, ⟨[N, N], [(0, A)], false, 0, false⟩) := by simp [DevS.wr, DevS.ck, DevS.tk, hA]
theorem ex_r1 : (DevS.mk [N, N] [(0, A)] false 0 false).rd 0 = (A, 0) := by simp [DevS.rd, DevS.ck, DevS.rdB]
theorem ex_w2 (hB : B.size = 256) : (DevS.mk [N, N] [(0, A)] false 0 false).wr 0 B = (0, ⟨[N, N], [(0, A), (0, B)], false, 0, false⟩) := by simp [DevS.wr, DevS.ck, DevS.tk, hB]
theorem ex_c3 (hN : N.size = 256) (hA : A.size = 256) : (DevS.mk [N, N] [(0, A), (0, B)] false 0 false).crash [true] 1 3 = ⟨[layB B A 3, N], [], false, 0, false⟩ := by
  have h := layB_all A N hA hN
  have e : (min (max (3 : Int) 0) 256).toNat = 3 := by decide
  simp [DevS.crash, laidTo, layOne, left, h, e]
theorem ex_r3 (X : ByteArray) : (DevS.mk [X, N] [] false 0 false).rd 0 = (X, 0) := by simp [DevS.rd, DevS.ck, DevS.rdB]
theorem ex_w4 (X : ByteArray) : (DevS.mk [X, N] [] false 0 false).wr 2 A = (2, ⟨[X, N], [], false, 0, false⟩) := by simp [DevS.wr, DevS.ck]
theorem ex_w5 (X Y : ByteArray) (hY : Y.size ≠ 256) : (DevS.mk [X, N] [] false 0 false).wr 0 Y = (3, ⟨[X, N], [], false, 0, false⟩) := by simp [DevS.wr, DevS.ck, hY]
theorem ex_u6 (X : ByteArray) : (DevS.mk [X, N] [] false 0 false).setFuse 1 = ⟨[X, N], [], true, 1, false⟩ := by
  have e : max (1 : Int) 0 = 1 := by decide
  simp [DevS.setFuse, e]
theorem ex_w7 (X : ByteArray) (hA : A.size = 256) : (DevS.mk [X, N] [] true 1 false).wr 0 A = (0, ⟨[X, N], [(0, A)], true, 0, false⟩) := by simp [DevS.wr, DevS.ck, DevS.tk, hA]
theorem ex_w8 (X : ByteArray) (hA : A.size = 256) : (DevS.mk [X, N] [(0, A)] true 0 false).wr 1 A = (4, ⟨[X, N], [(0, A)], true, 0, true⟩) := by simp [DevS.wr, DevS.ck, DevS.tk, hA]
theorem ex_r9 (X : ByteArray) : (DevS.mk [X, N] [(0, A)] true 0 true).rd 0 = (ByteArray.empty, 4) := by simp [DevS.rd, DevS.ck]
end

theorem zeros_eq : textOf (fun _ => 0) = noughts := by decide +kernel
theorem bbb_eq : (textOf fun _ => 98).extract 0 3 = ⟨#[98, 98, 98]⟩ := by decide +kernel

end Go.Proofs.Ytlikbfdfaccekaa
