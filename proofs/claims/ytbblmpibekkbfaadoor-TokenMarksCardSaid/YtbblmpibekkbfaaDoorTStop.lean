/- The document's stop words. -/
import Derived.Test.YtbblmpibekkbfaaDoorUFoldD
import Derived.Test.YtbblmpibekkbfaaDoorTMath
namespace Go.Proofs.YtbblmpibekkbfaaDoor
open Go.RowKit

def stopsL : List (List UInt8) := [[97], [97, 110], [97, 110, 100], [97, 114, 101], [97, 115], [97, 116], [98, 101], [98, 121], [102, 111, 114], [105, 110], [105, 115], [105, 116], [111, 102], [111, 110], [111, 114], [116, 104, 101], [116, 111], [119, 105, 116, 104]]
def isStop (L : List UInt8) : Bool := stopsL.any fun x => x == L
theorem stops_len : stopsL.length = 18 := rfl
set_option maxRecDepth 100000 in
set_option maxHeartbeats 1000000 in
theorem xstop_any (s : ByteArray) (w : World) : Calls Tryd.prog 16 #[.string s] w fun e w' => e = .returned (.bool (isStop s.data.toList)) ∧ Below w.heap.size w w' := by
  obtain ⟨X, hX⟩ : ∃ X, w.alloc (.cells (stopsL.map fun l => Value.string (utxt l)).toArray 9) = X := ⟨_, rfl⟩
  have hbX : Below w.heap.size w X := by rw [← hX]; exact (Below.refl _ _).alloc (Nat.le_refl _) _
  have hc : ∀ k (h : k < 18), X.cell? ⟨w.heap.size, k, none⟩ = some (.string (utxt (stopsL[k]'(by rw [stops_len]; exact h)))) := fun k h => by
    rw [← hX, ucell_at (heap_alloc_new ..)]
    simp [stops_len, h]
  have HX := Lib.hid hX; have HBX := Lib.hid hbX; have HC := Lib.hid hc
  have HAny : Hid (∀ k (h : k < 18), stopsL[k]'(by rw [stops_len]; exact h) = s.data.toList → isStop s.data.toList = true) := fun k h e => by
    unfold isStop
    rw [List.any_eq_true]
    exact ⟨_, List.getElem_mem (by rw [stops_len]; exact h), by rw [e]; simp⟩
  have HNone : Hid ((∀ k (h : k < 18), stopsL[k]'(by rw [stops_len]; exact h) ≠ s.data.toList) → isStop s.data.toList = false) := fun h => by
    unfold isStop
    rw [List.any_eq_false]
    intro x hx
    obtain ⟨k, hk, rfl⟩ := List.mem_iff_getElem.1 hx
    have := h k (by rw [← stops_len]; exact hk)
    simpa using this
  have HEq : Hid (∀ k (h : k < 18), stopsL[k]'(by rw [stops_len]; exact h) = s.data.toList → ((utxt (stopsL[k]'(by rw [stops_len]; exact h))).toList == s.toList) = true) := fun k h e => by rw [e, utxt_of]; simp
  have HNe : Hid (∀ k (h : k < 18), stopsL[k]'(by rw [stops_len]; exact h) ≠ s.data.toList → ((utxt (stopsL[k]'(by rw [stops_len]; exact h))).toList == s.toList) = false) := fun k h e => ustr_diff (fun e2 => e (utxt_inj (e2.trans (utxt_of s).symm)))
  clear hX hbX hc
  go_enter Tryd.func16, Tryd.ntmps16
  go_wp2_with fail
  go_loopw [4] (fun i wr => ∃ k : Nat, k ≤ 18 ∧ i = .int .i64 (k : Int) ∧ Hid (∀ j (h : j < 18), wr.cell? ⟨w.heap.size, j, none⟩ = some (.string (utxt (stopsL[j]'(by rw [stops_len]; exact h))))) ∧ Hid (Below w.heap.size w wr) ∧ Hid (∀ j (h : j < 18), j < k → stopsL[j]'(by rw [stops_len]; exact h) ≠ s.data.toList)) (fun i _ => 18 - (intOf i).toNat)
  case atStart =>
    refine ⟨0, by omega, rfl, ?_, ?_, fun j _ h => absurd h (Nat.not_lt_zero _)⟩
    · intro j h
      have := HC.out j h
      rw [← HX.out] at this
      exact this
    · have := HBX.out
      rw [← HX.out] at this
      exact this
  case round =>
    obtain ⟨k, hk, rfl, HCk, HBk, HN⟩ := hrel
    by_cases hlt : k < 18
    · have c0 := HCk.out k hlt
      have HA := Lib.hid (HAny.out k hlt)
      have HE := Lib.hid (HEq.out k hlt)
      have HD := Lib.hid (HNe.out k hlt)
      have HN2 : Hid (stopsL[k]'(by rw [stops_len]; exact hlt) ≠ s.data.toList → ∀ j (h : j < 18), j < k + 1 → stopsL[j]'(by rw [stops_len]; exact h) ≠ s.data.toList) := fun hne j h hj => by
        by_cases hjk : j = k
        · subst hjk; exact hne
        · exact HN.out j h (by omega)
      clear HN
      generalize stopsL[k]'(by rw [stops_len]; exact hlt) = Y at *
      have z0 : (k : Int) < 18 := by omega
      by_cases he : Y = s.data.toList
      · have h1 := HE.out he
        have h2 := Lib.hid (HA.out he)
        clear HN2 HD he
        go_wp2
        go_ret
        exact ⟨congrArg (fun b => Ending.returned (.bool b)) h2.out.symm, HBk.out⟩
      · have h1 := HD.out he
        have h2 := Lib.hid (HN2.out he)
        clear HA HE he
        go_wp2
        go_roundw
        case rel => exact ⟨k + 1, by omega, by go_num, HCk.out, HBk.out, h2.out⟩
        case measure => simp [intOf]; omega
    · have h2 := Lib.hid (HNone.out (fun j h => HN.out j h (by omega)))
      have z0 : ¬ (k : Int) < 18 := by omega
      go_wp2
      go_ret
      exact ⟨congrArg (fun b => Ending.returned (.bool b)) h2.out.symm, HBk.out⟩
end Go.Proofs.YtbblmpibekkbfaaDoor
