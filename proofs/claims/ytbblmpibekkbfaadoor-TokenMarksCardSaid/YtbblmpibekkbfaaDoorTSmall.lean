/- How many words, and how long. -/
import Derived.Test.YtbblmpibekkbfaaDoorTTok
namespace Go.Proofs.YtbblmpibekkbfaaDoor
open Go.RowKit

theorem putLast_flatten {α : Type} (x : α) : ∀ o : List (List α), (putLast x o).flatten = o.flatten ++ [x]
  | [] => rfl
  | [g] => by simp [putLast]
  | g :: h :: r => by
    have := putLast_flatten x (h :: r)
    show (g :: putLast x (h :: r)).flatten = _
    rw [List.flatten_cons, this, List.flatten_cons (L := h :: r), List.append_assoc]
theorem putLast_len {α : Type} (x : α) : ∀ o : List (List α), (putLast x o).length ≤ o.length + 1
  | [] => by simp [putLast]
  | [g] => by simp [putLast]
  | g :: h :: r => by
    have := putLast_len x (h :: r)
    show (putLast x (h :: r)).length + 1 ≤ _
    simp only [List.length_cons] at this ⊢
    omega
theorem gStep_flatten (l : List It) : ∀ o : List (List It) × Bool, (l.foldl gStep o).1.flatten = o.1.flatten ++ l.filter isW ∧ (l.foldl gStep o).1.length ≤ o.1.length + l.length := by
  induction l with
  | nil => intro o; simp
  | cons x l ih =>
    intro o
    obtain ⟨h1, h2⟩ := ih (gStep o x)
    rw [List.foldl_cons]
    have h3 : (gStep o x).1.flatten = o.1.flatten ++ (if isW x = true then [x] else []) ∧ (gStep o x).1.length ≤ o.1.length + 1 := by
      unfold gStep
      by_cases hw : isW x = true
      · rw [if_pos hw, if_pos hw]
        by_cases hc : o.2 = true
        · rw [if_pos hc]; exact ⟨putLast_flatten x _, putLast_len x _⟩
        · rw [if_neg hc]; exact ⟨by simp, by simp⟩
      · rw [if_neg hw, if_neg hw]; exact ⟨by simp, by simp⟩
    refine ⟨?_, by simp only [List.length_cons]; omega⟩
    rw [h1, h3.1, List.filter_cons, List.append_assoc]
    by_cases hw : isW x = true
    · rw [if_pos hw, if_pos hw]; rfl
    · rw [if_neg hw, if_neg hw]; rfl
theorem grps_flatten (l : List It) : (grps l).flatten = l.filter isW ∧ (grps l).length ≤ l.length := by
  have := gStep_flatten l ([], false)
  exact ⟨this.1, by simpa [grps] using this.2⟩
theorem cut_len (L : List UInt8) : (cut L).length ≤ L.length := by
  suffices h : ∀ k (L : List UInt8), L.length ≤ k → (cut L).length ≤ L.length from h _ L (Nat.le_refl _)
  intro k
  induction k with
  | zero => intro L h; rw [List.length_eq_zero_iff.1 (show L.length = 0 by omega)]; exact Nat.le_refl _
  | succ k ih =>
    intro L h
    by_cases hL : L = []
    · subst hL; exact Nat.le_refl _
    · have hp := rune_pos hL
      have i1 := ih (L.drop (runeL L).2) (by rw [List.length_drop]; omega)
      rw [cut_cons hL, List.length_cons]
      rw [List.length_drop] at i1
      omega
theorem bytes_sub (a b : List It) (h : a.Sublist b) : (a.flatMap (·.2)).length ≤ (b.flatMap (·.2)).length := by
  induction h with
  | slnil => exact Nat.le_refl _
  | cons x _ ih => rw [List.flatMap_cons, List.length_append]; omega
  | cons_cons x _ ih => rw [List.flatMap_cons, List.flatMap_cons, List.length_append, List.length_append]; omega
theorem mem_sub (g : List It) : ∀ o : List (List It), g ∈ o → g.Sublist o.flatten
  | [], h => by cases h
  | a :: o, h => by
    rw [List.flatten_cons]
    rcases List.mem_cons.1 h with rfl | h
    · exact List.sublist_append_left ..
    · exact (mem_sub g o h).trans (List.sublist_append_right ..)
theorem words_small (L : List UInt8) : (wordsL L).length ≤ L.length ∧ ∀ g ∈ wordsL L, g.size ≤ L.length := by
  have h := grps_flatten (cut L)
  have hc := cut_len L
  refine ⟨by unfold wordsL; rw [List.length_map]; omega, fun g hg => ?_⟩
  obtain ⟨q, hq, rfl⟩ := List.mem_map.1 hg
  have hs := mem_sub q _ hq
  rw [h.1] at hs
  have hb := bytes_sub _ _ (hs.trans List.filter_sublist)
  rw [cut_join] at hb
  unfold flatG
  rw [utxt_size]
  exact hb
end Go.Proofs.YtbblmpibekkbfaaDoor
