/- Rows of terms that rise. -/
import Derived.Test.YtbblmpibekkbfaaDoorTSame
namespace Go.Proofs.YtbblmpibekkbfaaDoor
open Go.RowKit

theorem blT_irr (a : List UInt8) : Op.bytesLess a a = false := by
  induction a with
  | nil => rfl
  | cons x r ih => simp [Op.bytesLess, ih]
theorem blT_trans (a b c : List UInt8) (h1 : Op.bytesLess a b = true) (h2 : Op.bytesLess b c = true) : Op.bytesLess a c = true := by
  induction a generalizing b c with
  | nil =>
    cases c with
    | nil => cases b <;> simp [Op.bytesLess] at h2
    | cons _ _ => rfl
  | cons x r ih =>
    cases b with
    | nil => simp [Op.bytesLess] at h1
    | cons y q =>
      cases c with
      | nil => simp [Op.bytesLess] at h2
      | cons z p =>
        simp only [Op.bytesLess, Bool.or_eq_true, Bool.and_eq_true, decide_eq_true_eq, beq_iff_eq] at h1 h2 ⊢
        rcases h1 with h1 | ⟨rfl, h1⟩
        · rcases h2 with h2 | ⟨rfl, _⟩
          · exact .inl (UInt8.lt_trans h1 h2)
          · exact .inl h1
        · rcases h2 with h2 | ⟨rfl, h2⟩
          · exact .inl h2
          · exact .inr ⟨rfl, ih q p h1 h2⟩
theorem blT_total (a b : List UInt8) (h1 : Op.bytesLess a b = false) (h2 : Op.bytesLess b a = false) : a = b := by
  induction a generalizing b with
  | nil => cases b with
    | nil => rfl
    | cons _ _ => simp [Op.bytesLess] at h1
  | cons x r ih => cases b with
    | nil => simp [Op.bytesLess] at h2
    | cons y q =>
      simp only [Op.bytesLess, Bool.or_eq_false_iff, Bool.and_eq_false_iff, decide_eq_false_iff_not, beq_eq_false_iff_ne, ne_eq] at h1 h2
      have hxy : x = y := by
        have := h1.1; have := h2.1
        apply UInt8.toNat_inj.1
        simp only [UInt8.lt_iff_toNat_lt] at *
        omega
      subst hxy
      rcases h1.2 with h | h
      · exact absurd rfl h
      · rcases h2.2 with h' | h'
        · exact absurd rfl h'
        · rw [ih q h h']
theorem lessT_irr (s : ByteArray) : lessT s s = false := blT_irr _
theorem lessT_trans {a b c : ByteArray} (h1 : lessT a b = true) (h2 : lessT b c = true) : lessT a c = true := blT_trans _ _ _ h1 h2
theorem toListT_inj {s t : ByteArray} (h : s.toList = t.toList) : s = t := by
  rw [ByteArray.toList_eq, ByteArray.toList_eq] at h
  apply ByteArray.ext
  exact Array.ext' h
theorem lessT_total {a b : ByteArray} (h1 : lessT a b = false) (h2 : lessT b a = false) : a = b := toListT_inj (blT_total _ _ h1 h2)
/-- A row of terms that rises. -/
def RiseT (o : List ByteArray) : Prop := o.Pairwise fun a b => lessT a b = true
theorem posT_all (o : List ByteArray) (t : ByteArray) : ∀ a ∈ o.take (posT o t), lessT a t = true := by
  induction o with
  | nil => intro a h; simp at h
  | cons x o ih =>
    intro a h
    by_cases hx : lessT x t = true
    · have e : posT (x :: o) t = posT o t + 1 := by unfold posT; rw [List.takeWhile_cons, if_pos hx]; rfl
      rw [e, List.take_succ_cons] at h
      rcases List.mem_cons.1 h with rfl | h
      · exact hx
      · exact ih a h
    · have e : posT (x :: o) t = 0 := by unfold posT; rw [List.takeWhile_cons, if_neg hx]; rfl
      rw [e] at h; simp at h
theorem insT_rise {o : List ByteArray} (h : RiseT o) (t : ByteArray) : RiseT (insT o t) := by
  unfold insT
  split
  · exact h
  · rename_i hne
    have hp := posT_le o t
    have hd : ∀ b ∈ o.drop (posT o t), lessT t b = true := by
      intro b hb
      by_cases hk : posT o t < o.length
      · have hat := posT_at o t hk
        have hne2 : o[posT o t] ≠ t := fun e => hne (by rw [List.getElem?_eq_getElem hk, e])
        have h1 : lessT t o[posT o t] = true := by
          cases e : lessT t o[posT o t] with
          | true => rfl
          | false => exact absurd (lessT_total hat e) hne2
        rw [List.drop_eq_getElem_cons hk] at hb
        rcases List.mem_cons.1 hb with rfl | hb
        · exact h1
        · have hs : RiseT (o[posT o t] :: o.drop (posT o t + 1)) := by
            rw [← List.drop_eq_getElem_cons hk]
            exact List.Pairwise.sublist (List.drop_sublist _ _) h
          exact lessT_trans h1 ((List.pairwise_cons.1 hs).1 b hb)
      · rw [List.drop_eq_nil_of_le (by omega)] at hb; cases hb
    refine List.pairwise_append.2 ⟨List.Pairwise.sublist (List.take_sublist _ _) h, List.pairwise_cons.2 ⟨hd, List.Pairwise.sublist (List.drop_sublist _ _) h⟩, fun a ha b hb => ?_⟩
    have h1 := posT_all o t a ha
    rcases List.mem_cons.1 hb with rfl | hb
    · exact h1
    · exact lessT_trans h1 (hd b hb)
theorem termsL_rise (L : List (ByteArray × Int)) : RiseT (termsL L) := by
  unfold termsL
  have h : ∀ (l o : List ByteArray), RiseT o → RiseT (l.foldl insT o) := by
    intro l
    induction l with
    | nil => intro o ho; exact ho
    | cons t l ih => intro o ho; exact ih _ (insT_rise ho t)
  exact h _ [] List.Pairwise.nil
end Go.Proofs.YtbblmpibekkbfaaDoor
