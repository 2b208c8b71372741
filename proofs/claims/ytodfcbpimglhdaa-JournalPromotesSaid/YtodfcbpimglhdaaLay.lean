/- Blocks behind some pending writes: in plain lists. -/
import Derived.Test.YtodfcbpimglhdaaCalls3
namespace Go.Proofs.Ytodfcbpimglhdaa
open Go.RowKit

theorem take_snocL {α : Type} (L : List α) (k : Nat) (h : k < L.length) : L.take (k + 1) = L.take k ++ [L[k]] := by
  rw [List.take_succ_eq_append_getElem h]
theorem layB_all (x old : ByteArray) (hx : x.size = 256) (ho : old.size = 256) : layB x old 256 = x := by
  unfold layB
  rw [ho]
  apply ByteArray.ext
  have hx' : x.data.size = 256 := hx
  have e1 : x.data.extract 0 256 = x.data := by rw [← hx']; exact Array.extract_size
  have e2 : old.data.extract 256 256 = #[] := Array.extract_empty_of_stop_le_start (Nat.le_refl _)
  rw [ByteArray.data_append, ByteArray.data_extract, ByteArray.data_extract, e1, e2, Array.append_empty]
theorem layB_none (x old : ByteArray) : layB x old 0 = old := by
  unfold layB
  simp

theorem laidTo_get (f : Nat → Nat) (pend : List (Nat × ByteArray)) (disk : List ByteArray) (k j : Nat) (hk : k ≤ pend.length) (hf : ∀ i, i < k → f i = 256) (hj : j < disk.length) (hd : ∀ s ∈ disk, s.size = 256) (hp : ∀ x ∈ pend, x.1 < disk.length ∧ x.2.size = 256) :
    (laidTo f pend disk k).getD j ByteArray.empty = (match (pend.take k).reverse.find? (fun x => x.1 == j) with | some x => x.2 | none => disk.getD j ByteArray.empty) ∧ ((laidTo f pend disk k).getD j ByteArray.empty).size = 256 := by
  induction k generalizing j with
  | zero => exact ⟨rfl, by rw [laidTo, getD_lt _ _ hj]; exact hd _ (List.getElem_mem hj)⟩
  | succ k ih =>
    have hk' : k < pend.length := by omega
    have hx := hp pend[k] (List.getElem_mem hk')
    have ihx := ih pend[k].1 (by omega) (fun i hi => hf i (by omega)) hx.1
    have ihj := ih j (by omega) (fun i hi => hf i (by omega)) hj
    have hlen : (laidTo f pend disk k).length = disk.length := laidTo_length f pend disk k
    rw [laidTo_succ f pend disk k hk', take_snocL pend k hk', List.reverse_append]
    simp only [List.reverse_cons, List.reverse_nil, List.nil_append, List.singleton_append, List.find?_cons]
    have hl : layB pend[k].2 ((laidTo f pend disk k).getD pend[k].1 ByteArray.empty) (f k) = pend[k].2 := by
      rw [hf k (by omega)]; exact layB_all _ _ hx.2 ihx.2
    unfold layOne
    rw [hl]
    by_cases e : pend[k].1 = j
    · subst e
      have : ((laidTo f pend disk k).set pend[k].1 pend[k].2).getD pend[k].1 ByteArray.empty = pend[k].2 := by simp [List.getD, hlen, hx.1]
      rw [this]
      simp [hx.2]
    · have : ((laidTo f pend disk k).set pend[k].1 pend[k].2).getD j ByteArray.empty = (laidTo f pend disk k).getD j ByteArray.empty := by simp [List.getD, e]
      rw [this]
      have e' : (pend[k].1 == j) = false := by simpa using e
      simp only [e']
      exact ihj

end Go.Proofs.Ytodfcbpimglhdaa
