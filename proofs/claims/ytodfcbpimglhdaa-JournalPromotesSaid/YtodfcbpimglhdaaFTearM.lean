/- A frame in which one byte is another one, but for the number of writes, is not unpacked: in plain lists. -/
import Derived.Test.YtodfcbpimglhdaaFMath
namespace Go.Proofs.Ytodfcbpimglhdaa.Fr
open Go.RowKit

theorem unp_err (L : List ByteArray) (h : (unp L).2.2 ≠ 0) : (unp L).2.1 = [] := by
  cases L with
  | nil => rfl
  | cons s D =>
    rw [unp_cons] at h ⊢
    by_cases hf : formB s D = true
    · rw [if_pos hf] at h ⊢
      by_cases hs : sumB s D = true
      · rw [if_pos hs] at h; exact absurd rfl h
      · rw [if_neg hs]
    · rw [if_neg hf]
theorem unp_ok {s : ByteArray} {D : List ByteArray} (h : (unp (s :: D)).2.2 = 0) : formB s D = true ∧ sumB s D = true := by
  rw [unp_cons] at h
  by_cases hf : formB s D = true
  · rw [if_pos hf] at h
    by_cases hs : sumB s D = true
    · exact ⟨hf, hs⟩
    · rw [if_neg hs] at h; cases h
  · rw [if_neg hf] at h; cases h
theorem set_parts (l : List UInt8) (i : Nat) (c : UInt8) (h : i < l.length) : l.set i c = l.take i ++ c :: l.drop (i + 1) := List.set_eq_take_append_cons_drop .. |>.trans (if_pos h)
theorem parts (l : List UInt8) (i : Nat) (h : i < l.length) : l = l.take i ++ l[i] :: l.drop (i + 1) := by
  rw [← List.drop_eq_getElem_cons h, List.take_append_drop]
/-- Two texts that part in one byte have two sums. -/
theorem crc_one (X Y : List UInt8) (x y : UInt8) (h : crcL (X ++ x :: Y) = crcL (X ++ y :: Y)) : x = y := by
  have hl : (X ++ x :: Y).length = (X ++ y :: Y).length := by simp
  have hi : X.length < (X ++ y :: Y).length := by simp
  have e0 : (X ++ y :: Y)[X.length] = y := by simp
  have e1 : (X ++ y :: Y).set X.length ((X ++ y :: Y)[X.length] ^^^ (y ^^^ x)) = X ++ x :: Y := by
    rw [e0, ← UInt8.xor_assoc, UInt8.xor_self, UInt8.zero_xor]
    rw [List.set_append_right _ _ (Nat.le_refl _), Nat.sub_self, List.set_cons_zero]
  have e2 := leN_set (X ++ y :: Y) X.length hi (y ^^^ x)
  rw [e1] at e2
  have hb := byte_lt (y ^^^ x)
  have e3 := crc_burst (X ++ y :: Y) (X ++ x :: Y) hl (8 * X.length) (y ^^^ x).toNat (by omega) (by omega) e2 h
  have := List.append_cancel_left e3
  exact (List.cons.inj this).1
theorem crc_set (l J : List UInt8) (i : Nat) (c : UInt8) (h : i < l.length) (hc : crcL (l.set i c ++ J) = crcL (l ++ J)) : c = l[i] := by
  rw [set_parts l i c h] at hc
  have e : l ++ J = l.take i ++ l[i] :: (l.drop (i + 1) ++ J) := by
    have := congrArg (· ++ J) (parts l i h)
    simp only [List.append_assoc, List.cons_append] at this
    exact this
  rw [e, List.append_assoc, List.cons_append] at hc
  exact crc_one _ _ _ _ hc
theorem getD_set (l : List UInt8) (m : Nat) (c : UInt8) (i : Nat) (h : i ≠ m) : (l.set m c).getD i 0 = l.getD i 0 := by
  simp only [List.getD]
  rw [List.getElem?_set_ne (Ne.symm h)]
theorem getD_set_same (l : List UInt8) (m : Nat) (c : UInt8) (h : m < l.length) : (l.set m c).getD m 0 = c := by
  simp [List.getD, h]
theorem nmAt_set (l : List UInt8) (m : Nat) (c : UInt8) (i : Nat) (h : m < i ∨ i + 4 ≤ m) : nmAt (l.set m c) i = nmAt l i := by
  unfold nmAt
  rw [getD_set _ _ _ _ (by omega), getD_set _ _ _ _ (by omega), getD_set _ _ _ _ (by omega), getD_set _ _ _ _ (by omega)]
theorem getD_at (l : List UInt8) (m : Nat) (h : m < l.length) : l.getD m 0 = l[m] := by simp [List.getD, h]

theorem tear_head (seq : Nat) (M : List (Int × ByteArray)) (m : Nat) (c : UInt8) (hseq : seq < 18446744073709551616) (h1 : 1 ≤ M.length) (h48 : M.length ≤ 48) (hw : ∀ x ∈ M, WrOk x) (hm : m < 256) (hn : ¬ (12 ≤ m ∧ m < 16))
    (hc : (unp (bs ((topL seq M).set m c) :: M.map (·.2))).2.2 = 0) : c = (topL seq M).getD m 0 := by
  obtain ⟨p1, p2, p3, p4, p5, p6⟩ := top_parts seq M hseq h1 h48 hw
  have hlen := topL_len seq M h48
  generalize topL seq M = l at *
  obtain ⟨hf, hs⟩ := unp_ok hc
  obtain ⟨f1, f2, f3⟩ := (formB_iff _ _).1 hf
  rw [data_bs] at f1 f2 f3
  unfold sumB at hs
  rw [data_bs] at hs
  obtain ⟨q1, q2, q3, q4, q5, q6⟩ := (headB_iff _).1 f1
  obtain ⟨r1, r2, r3, _⟩ := (headB_iff _).1 p1
  have hsame := getD_set_same l m c (by omega)
  have hn12 : nmAt (l.set m c) 12 = M.length := by rw [nmAt_set _ _ _ _ (by omega)]; exact p2
  rw [hn12] at hs
  have ht : (M.map (·.2)).take M.length = M.map (·.2) := List.take_of_length_le (by simp)
  rw [ht] at hs
  have hs' : nmAt (l.set m c) 248 = crcL ((l.set m c).take 248 ++ joinB (M.map (·.2))) := by simpa using hs
  by_cases a1 : m < 4
  · have e := congrArg (fun z => z.getD m 0) (q2.trans r2.symm)
    simp only [getD_take _ _ _ a1, hsame] at e
    exact e
  · by_cases a2 : m < 248
    · have e : (l.set m c).take 248 = (l.take 248).set m c := by rw [List.take_set]
      rw [nmAt_set _ _ _ _ (by omega), p6, e, ← p5] at hs'
      have hl : m < (l.take 248).length := by rw [List.length_take]; omega
      have := crc_set (l.take 248) (joinB (M.map (·.2))) m c hl hs'.symm
      rw [List.getElem_take] at this
      rw [this, getD_at l m (by omega)]
    · by_cases a3 : m < 252
      · have e : (l.set m c).take 248 = l.take 248 := by rw [List.take_set, List.set_eq_of_length_le (by rw [List.length_take]; omega)]
        rw [e, p5, ← p6] at hs'
        unfold nmAt at hs'
        obtain ⟨b0, b1, b2, b3⟩ := unfix_inj hs'
        have hm4 : m = 248 ∨ m = 249 ∨ m = 250 ∨ m = 251 := by omega
        rw [← hsame]
        rcases hm4 with rfl | rfl | rfl | rfl
        · exact b0
        · exact b1
        · exact b2
        · exact b3
      · have e := congrArg (fun z => z.getD (m - 252) 0) (q3.trans r3.symm)
        simp only [getD_drop] at e
        rw [show 252 + (m - 252) = m by omega, hsame] at e
        exact e
theorem joinB_append (A B : List ByteArray) : joinB (A ++ B) = joinB A ++ joinB B := by unfold joinB; rw [List.flatMap_append]
theorem tear_data (seq : Nat) (M : List (Int × ByteArray)) (k m : Nat) (c : UInt8) (hseq : seq < 18446744073709551616) (h1 : 1 ≤ M.length) (h48 : M.length ≤ 48) (hw : ∀ x ∈ M, WrOk x) (hk : k < M.length) (hm : m < 256)
    (hc : (unp (bs (topL seq M) :: (M.map (·.2)).set k (bs (M[k].2.data.toList.set m c)))).2.2 = 0) : c = M[k].2.data.toList.getD m 0 := by
  obtain ⟨p1, p2, p3, p4, p5, p6⟩ := top_parts seq M hseq h1 h48 hw
  have hz := (hw _ (List.getElem_mem hk)).2.2
  obtain ⟨hf, hs⟩ := unp_ok hc
  unfold sumB at hs
  rw [data_bs, p2, p5, p6, List.take_of_length_le (by simp)] at hs
  have hs' : crcL (headL seq M ++ joinB (M.map (·.2))) = crcL (headL seq M ++ joinB ((M.map (·.2)).set k (bs (M[k].2.data.toList.set m c)))) := by simpa using hs
  have hkl : k < (M.map (·.2)).length := by simpa using hk
  have e1 : M.map (·.2) = (M.map (·.2)).take k ++ M[k].2 :: (M.map (·.2)).drop (k + 1) := by
    have := List.drop_eq_getElem_cons hkl
    rw [List.getElem_map] at this
    rw [← this, List.take_append_drop]
  have e2 : (M.map (·.2)).set k (bs (M[k].2.data.toList.set m c)) = (M.map (·.2)).take k ++ bs (M[k].2.data.toList.set m c) :: (M.map (·.2)).drop (k + 1) := List.set_eq_take_append_cons_drop .. |>.trans (if_pos hkl)
  rw [e2] at hs'
  have e3 := congrArg joinB e1
  rw [e3] at hs'
  generalize (M.map (·.2)).take k = A at *
  generalize (M.map (·.2)).drop (k + 1) = B at *
  generalize M[k].2 = s at *
  have j (t : ByteArray) : joinB (A ++ t :: B) = joinB A ++ (t.data.toList ++ joinB B) := by
    rw [joinB_append]; unfold joinB; rw [List.flatMap_cons]
  rw [j, j, data_bs] at hs'
  have hm' : m < s.data.toList.length := by rw [str_len, hz]; exact hm
  rw [set_parts _ m c hm'] at hs'
  have e5 : s.data.toList ++ joinB B = s.data.toList.take m ++ s.data.toList[m] :: (s.data.toList.drop (m + 1) ++ joinB B) := by
    have := congrArg (· ++ joinB B) (parts s.data.toList m hm')
    simp only [List.append_assoc, List.cons_append] at this
    exact this
  rw [e5] at hs'
  simp only [List.append_assoc, List.cons_append] at hs'
  rw [getD_at _ m hm']
  refine (crc_one (headL seq M ++ (joinB A ++ s.data.toList.take m)) (s.data.toList.drop (m + 1) ++ joinB B) _ _ ?_).symm
  simp only [List.append_assoc]
  exact hs'
end Go.Proofs.Ytodfcbpimglhdaa.Fr
