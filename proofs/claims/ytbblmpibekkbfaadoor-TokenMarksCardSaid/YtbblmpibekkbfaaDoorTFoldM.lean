/- The promises that tokens keep, in plain lists. -/
import Derived.Test.YtbblmpibekkbfaaDoorTProg
namespace Go.Proofs.YtbblmpibekkbfaaDoor
open Go.RowKit

def toksF : List (List UInt8) → Nat → List (ByteArray × Int)
  | [], _ => []
  | x :: r, i => if keepT x = true then (utxt x, (i : Int)) :: toksF r (i + 1) else toksF r (i + 1)
theorem toksL_F : ∀ (l : List ByteArray) (i : Nat), toksL l i = toksF (l.map fun g => foldedL g.data.toList) i
  | [], _ => rfl
  | g :: r, i => by
    rw [List.map_cons]
    show _ = if _ then _ else _
    cases h : keepT (foldedL g.data.toList) with
    | true => rw [toksL_yes h, if_pos rfl, toksL_F r]
    | false => rw [toksL_no h, if_neg (by simp), toksL_F r]
theorem words_terms (L : List UInt8) : (wordsL L).map (fun g => foldedL g.data.toList) = (grps (cut L)).map termG := by
  unfold wordsL
  rw [List.map_map]
  rfl
theorem tokL_F (s : ByteArray) : tokL s = toksF ((grps (cut s.data.toList)).map termG) 0 := by
  unfold tokL
  rw [toksL_F, words_terms]
theorem utxt_list (l : List UInt8) : (utxt l).data.toList = l := rfl
theorem tokL_fold (s : ByteArray) : tokL (utxt (foldedL s.data.toList)) = tokL s := by
  rw [tokL_F, tokL_F, utxt_list, terms_fold]
theorem toksF_mem : ∀ (l : List (List UInt8)) (i : Nat) (x : ByteArray × Int), x ∈ toksF l i → (∃ g ∈ l, x.1 = utxt g ∧ keepT g = true) ∧ (i : Int) ≤ x.2
  | [], _, x, h => by cases h
  | g :: r, i, x, h => by
    have h' : x ∈ (if keepT g = true then (utxt g, (i : Int)) :: toksF r (i + 1) else toksF r (i + 1)) := h
    by_cases hk : keepT g = true
    · rw [if_pos hk] at h'
      rcases List.mem_cons.1 h' with rfl | h'
      · exact ⟨⟨g, List.mem_cons_self .., rfl, hk⟩, Int.le_refl _⟩
      · obtain ⟨⟨g', h1, h2⟩, h3⟩ := toksF_mem r (i + 1) x h'
        exact ⟨⟨g', List.mem_cons_of_mem _ h1, h2⟩, by omega⟩
    · rw [if_neg hk] at h'
      obtain ⟨⟨g', h1, h2⟩, h3⟩ := toksF_mem r (i + 1) x h'
      exact ⟨⟨g', List.mem_cons_of_mem _ h1, h2⟩, by omega⟩
theorem toksF_rise : ∀ (l : List (List UInt8)) (i : Nat), (toksF l i).Pairwise fun a b => a.2 < b.2
  | [], _ => List.Pairwise.nil
  | g :: r, i => by
    show (if keepT g = true then (utxt g, (i : Int)) :: toksF r (i + 1) else toksF r (i + 1)).Pairwise _
    by_cases hk : keepT g = true
    · rw [if_pos hk]
      exact List.pairwise_cons.2 ⟨fun b hb => by have := (toksF_mem r (i + 1) b hb).2; dsimp only; omega, toksF_rise r (i + 1)⟩
    · rw [if_neg hk]; exact toksF_rise r (i + 1)
theorem tokL_at (s : ByteArray) (j : Nat) (hj : j < (tokL s).length) : tokL (tokL s)[j].1 = [((tokL s)[j].1, 0)] ∧ (tokL s)[j].1.size ≤ 40 ∧ (j : Int) ≤ (tokL s)[j].2 ∧ (tokL s)[j].2 ≤ (s.size : Int) ∧ (∀ h : 0 < j, (tokL s)[j - 1].2 < (tokL s)[j].2) := by
  have hm : (tokL s)[j] ∈ tokL s := List.getElem_mem hj
  have hr : (tokL s).Pairwise fun a b => a.2 < b.2 := by rw [tokL_F]; exact toksF_rise _ _
  have hm2 : (tokL s)[j] ∈ toksF ((grps (cut s.data.toList)).map termG) 0 := (tokL_F s) ▸ hm
  obtain ⟨⟨g, hg, e, hk⟩, _⟩ := toksF_mem _ _ _ hm2
  obtain ⟨G, hG, rfl⟩ := List.mem_map.1 hg
  have hlow : ∀ (l : List (ByteArray × Int)) (k : Nat), (l.Pairwise fun a b => a.2 < b.2) → (∀ x ∈ l, (k : Int) ≤ x.2) → ∀ j (hj : j < l.length), ((k + j : Nat) : Int) ≤ l[j].2 := by
    intro l
    induction l with
    | nil => intro k _ _ j hj; simp at hj
    | cons x l ih =>
      intro k h1 h2 j hj
      cases j with
      | zero => exact h2 x (List.mem_cons_self ..)
      | succ j =>
        have := ih (k + 1) (List.pairwise_cons.1 h1).2 (fun y hy => by have a := (List.pairwise_cons.1 h1).1 y hy; have b := h2 x (List.mem_cons_self ..); omega) j (by simpa using hj)
        rw [List.getElem_cons_succ]; omega
  have hup : ∀ (l : List (List UInt8)) (i : Nat) (x : ByteArray × Int), x ∈ toksF l i → x.2 < (i + l.length : Nat) := by
    intro l
    induction l with
    | nil => intro i x h; cases h
    | cons y l ih =>
      intro i x h
      have h' : x ∈ (if keepT y = true then (utxt y, (i : Int)) :: toksF l (i + 1) else toksF l (i + 1)) := h
      by_cases hk : keepT y = true
      · rw [if_pos hk] at h'
        rcases List.mem_cons.1 h' with rfl | h'
        · show ((i : Nat) : Int) < _
          rw [List.length_cons]; omega
        · have := ih (i + 1) x h'; rw [List.length_cons]; omega
      · rw [if_neg hk] at h'
        have := ih (i + 1) x h'; rw [List.length_cons]; omega
  refine ⟨?_, ?_, ?_, ?_, ?_⟩
  · rw [e, tokL_F, utxt_list, term_alone hG]
    show (if keepT (termG G) = true then _ else _) = _
    rw [if_pos hk]; rfl
  · rw [e]
    have : (termG G).length ≤ 40 := by
      unfold keepT at hk
      rw [Bool.and_eq_true] at hk
      exact of_decide_eq_true hk.2
    rw [utxt_size]; exact this
  · have := hlow _ 0 hr (fun x hx => by rw [tokL_F] at hx; exact (toksF_mem _ _ _ hx).2) j hj
    omega
  · have h1 := hup _ _ _ hm2
    have h2 : ((grps (cut s.data.toList)).map termG).length ≤ s.size := by
      rw [List.length_map]
      have := (words_small s.data.toList).1
      unfold wordsL at this
      rw [List.length_map, data_len] at this
      exact this
    omega
  · intro h
    exact List.pairwise_iff_getElem.1 hr (j - 1) j (by omega) hj (by omega)
theorem trmL_rise (s : ByteArray) (i : Nat) (h0 : 0 < i) (hi : i < (trmL s).length) : lessT (trmL s)[i - 1] (trmL s)[i] = true := by
  have h : RiseT (trmL s) := termsL_rise _
  exact List.pairwise_iff_getElem.1 h (i - 1) i (by omega) hi (by omega)
end Go.Proofs.YtbblmpibekkbfaaDoor
