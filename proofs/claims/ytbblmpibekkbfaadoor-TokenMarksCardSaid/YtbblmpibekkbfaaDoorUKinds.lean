/- The document's kinds and what it folds. -/
import Derived.Test.YtbblmpibekkbfaaDoorUDoc2
namespace Go.Proofs.YtbblmpibekkbfaaDoor
open Go.RowKit

set_option maxRecDepth 100000 in
theorem in_yes (r lo hi : Int) (w : World) (h : lo ≤ r ∧ r ≤ hi) : Calls Tryd.prog 29 #[.int .i64 r, .int .i64 lo, .int .i64 hi] w fun e w' => e = .returned (.bool true) ∧ w = w' := by
  obtain ⟨h1, h2⟩ := h
  go_enter Tryd.func29, Tryd.ntmps29
  go_wp2
  go_ret
  exact ⟨rfl, rfl⟩
set_option maxRecDepth 100000 in
theorem in_no (r lo hi : Int) (w : World) (h : ¬ (lo ≤ r ∧ r ≤ hi)) : Calls Tryd.prog 29 #[.int .i64 r, .int .i64 lo, .int .i64 hi] w fun e w' => e = .returned (.bool false) ∧ w = w' := by
  by_cases h1 : lo ≤ r
  · have h2 : ¬ r ≤ hi := fun e => h ⟨h1, e⟩
    go_enter Tryd.func29, Tryd.ntmps29
    go_wp2
    go_ret
    exact ⟨rfl, rfl⟩
  · go_enter Tryd.func29, Tryd.ntmps29
    go_wp2
    go_ret
    exact ⟨rfl, rfl⟩
/-- Is it a letter? -/
def letterI (r : Int) : Bool :=
  decide ((65 ≤ r ∧ r ≤ 90) ∨ (97 ≤ r ∧ r ≤ 122) ∨ r = 170 ∨ r = 181 ∨ r = 186 ∨ (192 ≤ r ∧ r ≤ 591 ∧ r ≠ 215 ∧ r ≠ 247) ∨
    (880 ≤ r ∧ r ≤ 1023 ∧ r ≠ 885 ∧ r ≠ 894 ∧ r ≠ 888 ∧ r ≠ 889 ∧ ¬ (896 ≤ r ∧ r ≤ 901) ∧ r ≠ 903 ∧ r ≠ 907 ∧ r ≠ 909 ∧ r ≠ 930 ∧ r ≠ 1014) ∨
    (1024 ≤ r ∧ r ≤ 1327 ∧ ¬ (1154 ≤ r ∧ r ≤ 1161)) ∨ (1329 ≤ r ∧ r ≤ 1366) ∨ (1377 ≤ r ∧ r ≤ 1415) ∨ (1488 ≤ r ∧ r ≤ 1514) ∨ (19968 ≤ r ∧ r ≤ 40959) ∨ (44032 ≤ r ∧ r ≤ 55203))
set_option maxRecDepth 100000 in
set_option maxHeartbeats 16000000 in
theorem letter_any (r : Int) (w : World) : Calls Tryd.prog 28 #[.int .i64 r] w fun e w' => e = .returned (.bool (letterI r)) ∧ w = w' := by
  by_cases e0 : r = 170
  · subst e0
    rw [show letterI 170 = true from by decide]
    go_enter Tryd.func28, Tryd.ntmps28
    go_wp2_with fail
    repeat (first
      | (refine (in_yes _ _ _ _ (by omega)).mono ?_; rintro e w1 ⟨rfl, rfl⟩; go_wp2_with fail)
      | (refine (in_no _ _ _ _ (by omega)).mono ?_; rintro e w1 ⟨rfl, rfl⟩; go_wp2_with fail))
    go_wp2
    go_ret
    exact ⟨rfl, rfl⟩
  by_cases e1 : r = 181
  · subst e1
    rw [show letterI 181 = true from by decide]
    go_enter Tryd.func28, Tryd.ntmps28
    go_wp2_with fail
    repeat (first
      | (refine (in_yes _ _ _ _ (by omega)).mono ?_; rintro e w1 ⟨rfl, rfl⟩; go_wp2_with fail)
      | (refine (in_no _ _ _ _ (by omega)).mono ?_; rintro e w1 ⟨rfl, rfl⟩; go_wp2_with fail))
    go_wp2
    go_ret
    exact ⟨rfl, rfl⟩
  by_cases e2 : r = 186
  · subst e2
    rw [show letterI 186 = true from by decide]
    go_enter Tryd.func28, Tryd.ntmps28
    go_wp2_with fail
    repeat (first
      | (refine (in_yes _ _ _ _ (by omega)).mono ?_; rintro e w1 ⟨rfl, rfl⟩; go_wp2_with fail)
      | (refine (in_no _ _ _ _ (by omega)).mono ?_; rintro e w1 ⟨rfl, rfl⟩; go_wp2_with fail))
    go_wp2
    go_ret
    exact ⟨rfl, rfl⟩
  by_cases e3 : r = 215
  · subst e3
    rw [show letterI 215 = false from by decide]
    go_enter Tryd.func28, Tryd.ntmps28
    go_wp2_with fail
    repeat (first
      | (refine (in_yes _ _ _ _ (by omega)).mono ?_; rintro e w1 ⟨rfl, rfl⟩; go_wp2_with fail)
      | (refine (in_no _ _ _ _ (by omega)).mono ?_; rintro e w1 ⟨rfl, rfl⟩; go_wp2_with fail))
    go_wp2
    go_ret
    exact ⟨rfl, rfl⟩
  by_cases e4 : r = 247
  · subst e4
    rw [show letterI 247 = false from by decide]
    go_enter Tryd.func28, Tryd.ntmps28
    go_wp2_with fail
    repeat (first
      | (refine (in_yes _ _ _ _ (by omega)).mono ?_; rintro e w1 ⟨rfl, rfl⟩; go_wp2_with fail)
      | (refine (in_no _ _ _ _ (by omega)).mono ?_; rintro e w1 ⟨rfl, rfl⟩; go_wp2_with fail))
    go_wp2
    go_ret
    exact ⟨rfl, rfl⟩
  by_cases e5 : r = 885
  · subst e5
    rw [show letterI 885 = false from by decide]
    go_enter Tryd.func28, Tryd.ntmps28
    go_wp2_with fail
    repeat (first
      | (refine (in_yes _ _ _ _ (by omega)).mono ?_; rintro e w1 ⟨rfl, rfl⟩; go_wp2_with fail)
      | (refine (in_no _ _ _ _ (by omega)).mono ?_; rintro e w1 ⟨rfl, rfl⟩; go_wp2_with fail))
    go_wp2
    go_ret
    exact ⟨rfl, rfl⟩
  by_cases e6 : r = 888
  · subst e6
    rw [show letterI 888 = false from by decide]
    go_enter Tryd.func28, Tryd.ntmps28
    go_wp2_with fail
    repeat (first
      | (refine (in_yes _ _ _ _ (by omega)).mono ?_; rintro e w1 ⟨rfl, rfl⟩; go_wp2_with fail)
      | (refine (in_no _ _ _ _ (by omega)).mono ?_; rintro e w1 ⟨rfl, rfl⟩; go_wp2_with fail))
    go_wp2
    go_ret
    exact ⟨rfl, rfl⟩
  by_cases e7 : r = 889
  · subst e7
    rw [show letterI 889 = false from by decide]
    go_enter Tryd.func28, Tryd.ntmps28
    go_wp2_with fail
    repeat (first
      | (refine (in_yes _ _ _ _ (by omega)).mono ?_; rintro e w1 ⟨rfl, rfl⟩; go_wp2_with fail)
      | (refine (in_no _ _ _ _ (by omega)).mono ?_; rintro e w1 ⟨rfl, rfl⟩; go_wp2_with fail))
    go_wp2
    go_ret
    exact ⟨rfl, rfl⟩
  by_cases e8 : r = 894
  · subst e8
    rw [show letterI 894 = false from by decide]
    go_enter Tryd.func28, Tryd.ntmps28
    go_wp2_with fail
    repeat (first
      | (refine (in_yes _ _ _ _ (by omega)).mono ?_; rintro e w1 ⟨rfl, rfl⟩; go_wp2_with fail)
      | (refine (in_no _ _ _ _ (by omega)).mono ?_; rintro e w1 ⟨rfl, rfl⟩; go_wp2_with fail))
    go_wp2
    go_ret
    exact ⟨rfl, rfl⟩
  by_cases e9 : r = 903
  · subst e9
    rw [show letterI 903 = false from by decide]
    go_enter Tryd.func28, Tryd.ntmps28
    go_wp2_with fail
    repeat (first
      | (refine (in_yes _ _ _ _ (by omega)).mono ?_; rintro e w1 ⟨rfl, rfl⟩; go_wp2_with fail)
      | (refine (in_no _ _ _ _ (by omega)).mono ?_; rintro e w1 ⟨rfl, rfl⟩; go_wp2_with fail))
    go_wp2
    go_ret
    exact ⟨rfl, rfl⟩
  by_cases e10 : r = 907
  · subst e10
    rw [show letterI 907 = false from by decide]
    go_enter Tryd.func28, Tryd.ntmps28
    go_wp2_with fail
    repeat (first
      | (refine (in_yes _ _ _ _ (by omega)).mono ?_; rintro e w1 ⟨rfl, rfl⟩; go_wp2_with fail)
      | (refine (in_no _ _ _ _ (by omega)).mono ?_; rintro e w1 ⟨rfl, rfl⟩; go_wp2_with fail))
    go_wp2
    go_ret
    exact ⟨rfl, rfl⟩
  by_cases e11 : r = 909
  · subst e11
    rw [show letterI 909 = false from by decide]
    go_enter Tryd.func28, Tryd.ntmps28
    go_wp2_with fail
    repeat (first
      | (refine (in_yes _ _ _ _ (by omega)).mono ?_; rintro e w1 ⟨rfl, rfl⟩; go_wp2_with fail)
      | (refine (in_no _ _ _ _ (by omega)).mono ?_; rintro e w1 ⟨rfl, rfl⟩; go_wp2_with fail))
    go_wp2
    go_ret
    exact ⟨rfl, rfl⟩
  by_cases e12 : r = 930
  · subst e12
    rw [show letterI 930 = false from by decide]
    go_enter Tryd.func28, Tryd.ntmps28
    go_wp2_with fail
    repeat (first
      | (refine (in_yes _ _ _ _ (by omega)).mono ?_; rintro e w1 ⟨rfl, rfl⟩; go_wp2_with fail)
      | (refine (in_no _ _ _ _ (by omega)).mono ?_; rintro e w1 ⟨rfl, rfl⟩; go_wp2_with fail))
    go_wp2
    go_ret
    exact ⟨rfl, rfl⟩
  by_cases e13 : r = 1014
  · subst e13
    rw [show letterI 1014 = false from by decide]
    go_enter Tryd.func28, Tryd.ntmps28
    go_wp2_with fail
    repeat (first
      | (refine (in_yes _ _ _ _ (by omega)).mono ?_; rintro e w1 ⟨rfl, rfl⟩; go_wp2_with fail)
      | (refine (in_no _ _ _ _ (by omega)).mono ?_; rintro e w1 ⟨rfl, rfl⟩; go_wp2_with fail))
    go_wp2
    go_ret
    exact ⟨rfl, rfl⟩
  have f0 : (r == 170) = false := beq_eq_false_iff_ne.2 e0
  have g0 : (r != 170) = true := by simpa using e0
  have f1 : (r == 181) = false := beq_eq_false_iff_ne.2 e1
  have g1 : (r != 181) = true := by simpa using e1
  have f2 : (r == 186) = false := beq_eq_false_iff_ne.2 e2
  have g2 : (r != 186) = true := by simpa using e2
  have f3 : (r == 215) = false := beq_eq_false_iff_ne.2 e3
  have g3 : (r != 215) = true := by simpa using e3
  have f4 : (r == 247) = false := beq_eq_false_iff_ne.2 e4
  have g4 : (r != 247) = true := by simpa using e4
  have f5 : (r == 885) = false := beq_eq_false_iff_ne.2 e5
  have g5 : (r != 885) = true := by simpa using e5
  have f6 : (r == 888) = false := beq_eq_false_iff_ne.2 e6
  have g6 : (r != 888) = true := by simpa using e6
  have f7 : (r == 889) = false := beq_eq_false_iff_ne.2 e7
  have g7 : (r != 889) = true := by simpa using e7
  have f8 : (r == 894) = false := beq_eq_false_iff_ne.2 e8
  have g8 : (r != 894) = true := by simpa using e8
  have f9 : (r == 903) = false := beq_eq_false_iff_ne.2 e9
  have g9 : (r != 903) = true := by simpa using e9
  have f10 : (r == 907) = false := beq_eq_false_iff_ne.2 e10
  have g10 : (r != 907) = true := by simpa using e10
  have f11 : (r == 909) = false := beq_eq_false_iff_ne.2 e11
  have g11 : (r != 909) = true := by simpa using e11
  have f12 : (r == 930) = false := beq_eq_false_iff_ne.2 e12
  have g12 : (r != 930) = true := by simpa using e12
  have f13 : (r == 1014) = false := beq_eq_false_iff_ne.2 e13
  have g13 : (r != 1014) = true := by simpa using e13
  have HYes : Hid ((∃ _ : Unit, ((65 ≤ r ∧ r ≤ 90) ∨ (97 ≤ r ∧ r ≤ 122) ∨ (192 ≤ r ∧ r ≤ 591) ∨ (880 ≤ r ∧ r ≤ 895) ∨ (902 ≤ r ∧ r ≤ 1023) ∨ (1024 ≤ r ∧ r ≤ 1153) ∨ (1162 ≤ r ∧ r ≤ 1327) ∨ (1329 ≤ r ∧ r ≤ 1366) ∨ (1377 ≤ r ∧ r ≤ 1415) ∨ (1488 ≤ r ∧ r ≤ 1514) ∨ (19968 ≤ r ∧ r ≤ 40959) ∨ (44032 ≤ r ∧ r ≤ 55203))) → letterI r = true) := fun ⟨_, h⟩ => by unfold letterI; exact decide_eq_true (by omega)
  have HNo : Hid ((∃ _ : Unit, (r ≤ 64 ∨ (91 ≤ r ∧ r ≤ 96) ∨ (123 ≤ r ∧ r ≤ 191) ∨ (592 ≤ r ∧ r ≤ 879) ∨ (896 ≤ r ∧ r ≤ 901) ∨ (1154 ≤ r ∧ r ≤ 1161) ∨ (1328 ≤ r ∧ r ≤ 1328) ∨ (1367 ≤ r ∧ r ≤ 1376) ∨ (1416 ≤ r ∧ r ≤ 1487) ∨ (1515 ≤ r ∧ r ≤ 19967) ∨ (40960 ≤ r ∧ r ≤ 44031) ∨ 55204 ≤ r)) → letterI r = false) := fun ⟨_, h⟩ => by unfold letterI; exact decide_eq_false (by omega)
  rcases (show r ≤ 64 ∨ (65 ≤ r ∧ r ≤ 90) ∨ (91 ≤ r ∧ r ≤ 96) ∨ (97 ≤ r ∧ r ≤ 122) ∨ (123 ≤ r ∧ r ≤ 191) ∨ (192 ≤ r ∧ r ≤ 591) ∨ (592 ≤ r ∧ r ≤ 879) ∨ (880 ≤ r ∧ r ≤ 895) ∨ (896 ≤ r ∧ r ≤ 901) ∨ (902 ≤ r ∧ r ≤ 1023) ∨ (1024 ≤ r ∧ r ≤ 1153) ∨ (1154 ≤ r ∧ r ≤ 1161) ∨ (1162 ≤ r ∧ r ≤ 1327) ∨ (1328 ≤ r ∧ r ≤ 1328) ∨ (1329 ≤ r ∧ r ≤ 1366) ∨ (1367 ≤ r ∧ r ≤ 1376) ∨ (1377 ≤ r ∧ r ≤ 1415) ∨ (1416 ≤ r ∧ r ≤ 1487) ∨ (1488 ≤ r ∧ r ≤ 1514) ∨ (1515 ≤ r ∧ r ≤ 19967) ∨ (19968 ≤ r ∧ r ≤ 40959) ∨ (40960 ≤ r ∧ r ≤ 44031) ∨ (44032 ≤ r ∧ r ≤ 55203) ∨ 55204 ≤ r by omega) with h | h | h | h | h | h | h | h | h | h | h | h | h | h | h | h | h | h | h | h | h | h | h | h
  · rw [HNo.out ⟨(), by omega⟩]
    clear HYes HNo
    go_enter Tryd.func28, Tryd.ntmps28
    go_wp2_with fail
    repeat (first
      | (refine (in_yes _ _ _ _ (by omega)).mono ?_; rintro e w1 ⟨rfl, rfl⟩; go_wp2_with fail)
      | (refine (in_no _ _ _ _ (by omega)).mono ?_; rintro e w1 ⟨rfl, rfl⟩; go_wp2_with fail))
    go_wp2
    go_ret
    exact ⟨rfl, rfl⟩
  · rw [HYes.out ⟨(), by omega⟩]
    clear HYes HNo
    obtain ⟨h1, h2⟩ := h
    go_enter Tryd.func28, Tryd.ntmps28
    go_wp2_with fail
    repeat (first
      | (refine (in_yes _ _ _ _ (by omega)).mono ?_; rintro e w1 ⟨rfl, rfl⟩; go_wp2_with fail)
      | (refine (in_no _ _ _ _ (by omega)).mono ?_; rintro e w1 ⟨rfl, rfl⟩; go_wp2_with fail))
    go_wp2
    go_ret
    exact ⟨rfl, rfl⟩
  · rw [HNo.out ⟨(), by omega⟩]
    clear HYes HNo
    obtain ⟨h1, h2⟩ := h
    go_enter Tryd.func28, Tryd.ntmps28
    go_wp2_with fail
    repeat (first
      | (refine (in_yes _ _ _ _ (by omega)).mono ?_; rintro e w1 ⟨rfl, rfl⟩; go_wp2_with fail)
      | (refine (in_no _ _ _ _ (by omega)).mono ?_; rintro e w1 ⟨rfl, rfl⟩; go_wp2_with fail))
    go_wp2
    go_ret
    exact ⟨rfl, rfl⟩
  · rw [HYes.out ⟨(), by omega⟩]
    clear HYes HNo
    obtain ⟨h1, h2⟩ := h
    go_enter Tryd.func28, Tryd.ntmps28
    go_wp2_with fail
    repeat (first
      | (refine (in_yes _ _ _ _ (by omega)).mono ?_; rintro e w1 ⟨rfl, rfl⟩; go_wp2_with fail)
      | (refine (in_no _ _ _ _ (by omega)).mono ?_; rintro e w1 ⟨rfl, rfl⟩; go_wp2_with fail))
    go_wp2
    go_ret
    exact ⟨rfl, rfl⟩
  · rw [HNo.out ⟨(), by omega⟩]
    clear HYes HNo
    obtain ⟨h1, h2⟩ := h
    go_enter Tryd.func28, Tryd.ntmps28
    go_wp2_with fail
    repeat (first
      | (refine (in_yes _ _ _ _ (by omega)).mono ?_; rintro e w1 ⟨rfl, rfl⟩; go_wp2_with fail)
      | (refine (in_no _ _ _ _ (by omega)).mono ?_; rintro e w1 ⟨rfl, rfl⟩; go_wp2_with fail))
    go_wp2
    go_ret
    exact ⟨rfl, rfl⟩
  · rw [HYes.out ⟨(), by omega⟩]
    clear HYes HNo
    obtain ⟨h1, h2⟩ := h
    go_enter Tryd.func28, Tryd.ntmps28
    go_wp2_with fail
    repeat (first
      | (refine (in_yes _ _ _ _ (by omega)).mono ?_; rintro e w1 ⟨rfl, rfl⟩; go_wp2_with fail)
      | (refine (in_no _ _ _ _ (by omega)).mono ?_; rintro e w1 ⟨rfl, rfl⟩; go_wp2_with fail))
    go_wp2
    go_ret
    exact ⟨rfl, rfl⟩
  · rw [HNo.out ⟨(), by omega⟩]
    clear HYes HNo
    obtain ⟨h1, h2⟩ := h
    go_enter Tryd.func28, Tryd.ntmps28
    go_wp2_with fail
    repeat (first
      | (refine (in_yes _ _ _ _ (by omega)).mono ?_; rintro e w1 ⟨rfl, rfl⟩; go_wp2_with fail)
      | (refine (in_no _ _ _ _ (by omega)).mono ?_; rintro e w1 ⟨rfl, rfl⟩; go_wp2_with fail))
    go_wp2
    go_ret
    exact ⟨rfl, rfl⟩
  · rw [HYes.out ⟨(), by omega⟩]
    clear HYes HNo
    obtain ⟨h1, h2⟩ := h
    go_enter Tryd.func28, Tryd.ntmps28
    go_wp2_with fail
    repeat (first
      | (refine (in_yes _ _ _ _ (by omega)).mono ?_; rintro e w1 ⟨rfl, rfl⟩; go_wp2_with fail)
      | (refine (in_no _ _ _ _ (by omega)).mono ?_; rintro e w1 ⟨rfl, rfl⟩; go_wp2_with fail))
    go_wp2
    go_ret
    exact ⟨rfl, rfl⟩
  · rw [HNo.out ⟨(), by omega⟩]
    clear HYes HNo
    obtain ⟨h1, h2⟩ := h
    go_enter Tryd.func28, Tryd.ntmps28
    go_wp2_with fail
    repeat (first
      | (refine (in_yes _ _ _ _ (by omega)).mono ?_; rintro e w1 ⟨rfl, rfl⟩; go_wp2_with fail)
      | (refine (in_no _ _ _ _ (by omega)).mono ?_; rintro e w1 ⟨rfl, rfl⟩; go_wp2_with fail))
    go_wp2
    go_ret
    exact ⟨rfl, rfl⟩
  · rw [HYes.out ⟨(), by omega⟩]
    clear HYes HNo
    obtain ⟨h1, h2⟩ := h
    go_enter Tryd.func28, Tryd.ntmps28
    go_wp2_with fail
    repeat (first
      | (refine (in_yes _ _ _ _ (by omega)).mono ?_; rintro e w1 ⟨rfl, rfl⟩; go_wp2_with fail)
      | (refine (in_no _ _ _ _ (by omega)).mono ?_; rintro e w1 ⟨rfl, rfl⟩; go_wp2_with fail))
    go_wp2
    go_ret
    exact ⟨rfl, rfl⟩
  · rw [HYes.out ⟨(), by omega⟩]
    clear HYes HNo
    obtain ⟨h1, h2⟩ := h
    go_enter Tryd.func28, Tryd.ntmps28
    go_wp2_with fail
    repeat (first
      | (refine (in_yes _ _ _ _ (by omega)).mono ?_; rintro e w1 ⟨rfl, rfl⟩; go_wp2_with fail)
      | (refine (in_no _ _ _ _ (by omega)).mono ?_; rintro e w1 ⟨rfl, rfl⟩; go_wp2_with fail))
    go_wp2
    go_ret
    exact ⟨rfl, rfl⟩
  · rw [HNo.out ⟨(), by omega⟩]
    clear HYes HNo
    obtain ⟨h1, h2⟩ := h
    go_enter Tryd.func28, Tryd.ntmps28
    go_wp2_with fail
    repeat (first
      | (refine (in_yes _ _ _ _ (by omega)).mono ?_; rintro e w1 ⟨rfl, rfl⟩; go_wp2_with fail)
      | (refine (in_no _ _ _ _ (by omega)).mono ?_; rintro e w1 ⟨rfl, rfl⟩; go_wp2_with fail))
    go_wp2
    go_ret
    exact ⟨rfl, rfl⟩
  · rw [HYes.out ⟨(), by omega⟩]
    clear HYes HNo
    obtain ⟨h1, h2⟩ := h
    go_enter Tryd.func28, Tryd.ntmps28
    go_wp2_with fail
    repeat (first
      | (refine (in_yes _ _ _ _ (by omega)).mono ?_; rintro e w1 ⟨rfl, rfl⟩; go_wp2_with fail)
      | (refine (in_no _ _ _ _ (by omega)).mono ?_; rintro e w1 ⟨rfl, rfl⟩; go_wp2_with fail))
    go_wp2
    go_ret
    exact ⟨rfl, rfl⟩
  · rw [HNo.out ⟨(), by omega⟩]
    clear HYes HNo
    obtain ⟨h1, h2⟩ := h
    go_enter Tryd.func28, Tryd.ntmps28
    go_wp2_with fail
    repeat (first
      | (refine (in_yes _ _ _ _ (by omega)).mono ?_; rintro e w1 ⟨rfl, rfl⟩; go_wp2_with fail)
      | (refine (in_no _ _ _ _ (by omega)).mono ?_; rintro e w1 ⟨rfl, rfl⟩; go_wp2_with fail))
    go_wp2
    go_ret
    exact ⟨rfl, rfl⟩
  · rw [HYes.out ⟨(), by omega⟩]
    clear HYes HNo
    obtain ⟨h1, h2⟩ := h
    go_enter Tryd.func28, Tryd.ntmps28
    go_wp2_with fail
    repeat (first
      | (refine (in_yes _ _ _ _ (by omega)).mono ?_; rintro e w1 ⟨rfl, rfl⟩; go_wp2_with fail)
      | (refine (in_no _ _ _ _ (by omega)).mono ?_; rintro e w1 ⟨rfl, rfl⟩; go_wp2_with fail))
    go_wp2
    go_ret
    exact ⟨rfl, rfl⟩
  · rw [HNo.out ⟨(), by omega⟩]
    clear HYes HNo
    obtain ⟨h1, h2⟩ := h
    go_enter Tryd.func28, Tryd.ntmps28
    go_wp2_with fail
    repeat (first
      | (refine (in_yes _ _ _ _ (by omega)).mono ?_; rintro e w1 ⟨rfl, rfl⟩; go_wp2_with fail)
      | (refine (in_no _ _ _ _ (by omega)).mono ?_; rintro e w1 ⟨rfl, rfl⟩; go_wp2_with fail))
    go_wp2
    go_ret
    exact ⟨rfl, rfl⟩
  · rw [HYes.out ⟨(), by omega⟩]
    clear HYes HNo
    obtain ⟨h1, h2⟩ := h
    go_enter Tryd.func28, Tryd.ntmps28
    go_wp2_with fail
    repeat (first
      | (refine (in_yes _ _ _ _ (by omega)).mono ?_; rintro e w1 ⟨rfl, rfl⟩; go_wp2_with fail)
      | (refine (in_no _ _ _ _ (by omega)).mono ?_; rintro e w1 ⟨rfl, rfl⟩; go_wp2_with fail))
    go_wp2
    go_ret
    exact ⟨rfl, rfl⟩
  · rw [HNo.out ⟨(), by omega⟩]
    clear HYes HNo
    obtain ⟨h1, h2⟩ := h
    go_enter Tryd.func28, Tryd.ntmps28
    go_wp2_with fail
    repeat (first
      | (refine (in_yes _ _ _ _ (by omega)).mono ?_; rintro e w1 ⟨rfl, rfl⟩; go_wp2_with fail)
      | (refine (in_no _ _ _ _ (by omega)).mono ?_; rintro e w1 ⟨rfl, rfl⟩; go_wp2_with fail))
    go_wp2
    go_ret
    exact ⟨rfl, rfl⟩
  · rw [HYes.out ⟨(), by omega⟩]
    clear HYes HNo
    obtain ⟨h1, h2⟩ := h
    go_enter Tryd.func28, Tryd.ntmps28
    go_wp2_with fail
    repeat (first
      | (refine (in_yes _ _ _ _ (by omega)).mono ?_; rintro e w1 ⟨rfl, rfl⟩; go_wp2_with fail)
      | (refine (in_no _ _ _ _ (by omega)).mono ?_; rintro e w1 ⟨rfl, rfl⟩; go_wp2_with fail))
    go_wp2
    go_ret
    exact ⟨rfl, rfl⟩
  · rw [HNo.out ⟨(), by omega⟩]
    clear HYes HNo
    obtain ⟨h1, h2⟩ := h
    go_enter Tryd.func28, Tryd.ntmps28
    go_wp2_with fail
    repeat (first
      | (refine (in_yes _ _ _ _ (by omega)).mono ?_; rintro e w1 ⟨rfl, rfl⟩; go_wp2_with fail)
      | (refine (in_no _ _ _ _ (by omega)).mono ?_; rintro e w1 ⟨rfl, rfl⟩; go_wp2_with fail))
    go_wp2
    go_ret
    exact ⟨rfl, rfl⟩
  · rw [HYes.out ⟨(), by omega⟩]
    clear HYes HNo
    obtain ⟨h1, h2⟩ := h
    go_enter Tryd.func28, Tryd.ntmps28
    go_wp2_with fail
    repeat (first
      | (refine (in_yes _ _ _ _ (by omega)).mono ?_; rintro e w1 ⟨rfl, rfl⟩; go_wp2_with fail)
      | (refine (in_no _ _ _ _ (by omega)).mono ?_; rintro e w1 ⟨rfl, rfl⟩; go_wp2_with fail))
    go_wp2
    go_ret
    exact ⟨rfl, rfl⟩
  · rw [HNo.out ⟨(), by omega⟩]
    clear HYes HNo
    obtain ⟨h1, h2⟩ := h
    go_enter Tryd.func28, Tryd.ntmps28
    go_wp2_with fail
    repeat (first
      | (refine (in_yes _ _ _ _ (by omega)).mono ?_; rintro e w1 ⟨rfl, rfl⟩; go_wp2_with fail)
      | (refine (in_no _ _ _ _ (by omega)).mono ?_; rintro e w1 ⟨rfl, rfl⟩; go_wp2_with fail))
    go_wp2
    go_ret
    exact ⟨rfl, rfl⟩
  · rw [HYes.out ⟨(), by omega⟩]
    clear HYes HNo
    obtain ⟨h1, h2⟩ := h
    go_enter Tryd.func28, Tryd.ntmps28
    go_wp2_with fail
    repeat (first
      | (refine (in_yes _ _ _ _ (by omega)).mono ?_; rintro e w1 ⟨rfl, rfl⟩; go_wp2_with fail)
      | (refine (in_no _ _ _ _ (by omega)).mono ?_; rintro e w1 ⟨rfl, rfl⟩; go_wp2_with fail))
    go_wp2
    go_ret
    exact ⟨rfl, rfl⟩
  · rw [HNo.out ⟨(), by omega⟩]
    clear HYes HNo
    go_enter Tryd.func28, Tryd.ntmps28
    go_wp2_with fail
    repeat (first
      | (refine (in_yes _ _ _ _ (by omega)).mono ?_; rintro e w1 ⟨rfl, rfl⟩; go_wp2_with fail)
      | (refine (in_no _ _ _ _ (by omega)).mono ?_; rintro e w1 ⟨rfl, rfl⟩; go_wp2_with fail))
    go_wp2
    go_ret
    exact ⟨rfl, rfl⟩
/-- A rune's kind. -/
def kindI (r : Int) : Nat :=
  if letterI r = true then 1 else
  if (48 ≤ r ∧ r ≤ 57) ∨ (1632 ≤ r ∧ r ≤ 1641) ∨ (2406 ≤ r ∧ r ≤ 2415) then 2 else
  if (9 ≤ r ∧ r ≤ 13) ∨ r = 32 ∨ r = 133 ∨ r = 160 ∨ (8192 ≤ r ∧ r ≤ 8202) ∨ r = 8232 ∨ r = 8233 ∨ r = 12288 then 3 else 0
set_option maxRecDepth 100000 in
set_option maxHeartbeats 16000000 in
theorem kind_any (r : Int) (w : World) : Calls Tryd.prog 18 #[.int .i64 r] w fun e w' => e = .returned (.int .i64 (kindI r : Nat)) ∧ w = w' := by
  have CL := Lib.hid (letter_any r w)
  cases hl : letterI r with
  | true =>
    have HK : Hid (kindI r = 1) := by show _ = _; unfold kindI; rw [if_pos hl]
    rw [hl] at CL
    rw [HK.out]
    clear hl
    go_enter Tryd.func18, Tryd.ntmps18
    go_wp2_with fail
    refine CL.out.mono ?_
    rintro e w1 ⟨rfl, rfl⟩
    go_wp2
    go_ret
    exact ⟨rfl, rfl⟩
  | false =>
  rw [hl] at CL
  have hk : kindI r = if (48 ≤ r ∧ r ≤ 57) ∨ (1632 ≤ r ∧ r ≤ 1641) ∨ (2406 ≤ r ∧ r ≤ 2415) then 2 else if (9 ≤ r ∧ r ≤ 13) ∨ r = 32 ∨ r = 133 ∨ r = 160 ∨ (8192 ≤ r ∧ r ≤ 8202) ∨ r = 8232 ∨ r = 8233 ∨ r = 12288 then 3 else 0 := by
    unfold kindI; rw [if_neg (by rw [hl]; simp)]
  rw [hk]
  clear hk hl
  by_cases e0 : r = 32
  · subst e0
    rw [if_neg (by omega), if_pos (by omega)]
    go_enter Tryd.func18, Tryd.ntmps18
    go_wp2_with fail
    refine CL.out.mono ?_
    rintro e w1 ⟨rfl, rfl⟩
    go_wp2_with fail
    repeat (first
      | (refine (in_yes _ _ _ _ (by omega)).mono ?_; rintro e w1 ⟨rfl, rfl⟩; go_wp2_with fail)
      | (refine (in_no _ _ _ _ (by omega)).mono ?_; rintro e w1 ⟨rfl, rfl⟩; go_wp2_with fail))
    go_wp2
    go_ret
    exact ⟨rfl, rfl⟩
  by_cases e1 : r = 133
  · subst e1
    rw [if_neg (by omega), if_pos (by omega)]
    go_enter Tryd.func18, Tryd.ntmps18
    go_wp2_with fail
    refine CL.out.mono ?_
    rintro e w1 ⟨rfl, rfl⟩
    go_wp2_with fail
    repeat (first
      | (refine (in_yes _ _ _ _ (by omega)).mono ?_; rintro e w1 ⟨rfl, rfl⟩; go_wp2_with fail)
      | (refine (in_no _ _ _ _ (by omega)).mono ?_; rintro e w1 ⟨rfl, rfl⟩; go_wp2_with fail))
    go_wp2
    go_ret
    exact ⟨rfl, rfl⟩
  by_cases e2 : r = 160
  · subst e2
    rw [if_neg (by omega), if_pos (by omega)]
    go_enter Tryd.func18, Tryd.ntmps18
    go_wp2_with fail
    refine CL.out.mono ?_
    rintro e w1 ⟨rfl, rfl⟩
    go_wp2_with fail
    repeat (first
      | (refine (in_yes _ _ _ _ (by omega)).mono ?_; rintro e w1 ⟨rfl, rfl⟩; go_wp2_with fail)
      | (refine (in_no _ _ _ _ (by omega)).mono ?_; rintro e w1 ⟨rfl, rfl⟩; go_wp2_with fail))
    go_wp2
    go_ret
    exact ⟨rfl, rfl⟩
  by_cases e3 : r = 8232
  · subst e3
    rw [if_neg (by omega), if_pos (by omega)]
    go_enter Tryd.func18, Tryd.ntmps18
    go_wp2_with fail
    refine CL.out.mono ?_
    rintro e w1 ⟨rfl, rfl⟩
    go_wp2_with fail
    repeat (first
      | (refine (in_yes _ _ _ _ (by omega)).mono ?_; rintro e w1 ⟨rfl, rfl⟩; go_wp2_with fail)
      | (refine (in_no _ _ _ _ (by omega)).mono ?_; rintro e w1 ⟨rfl, rfl⟩; go_wp2_with fail))
    go_wp2
    go_ret
    exact ⟨rfl, rfl⟩
  by_cases e4 : r = 8233
  · subst e4
    rw [if_neg (by omega), if_pos (by omega)]
    go_enter Tryd.func18, Tryd.ntmps18
    go_wp2_with fail
    refine CL.out.mono ?_
    rintro e w1 ⟨rfl, rfl⟩
    go_wp2_with fail
    repeat (first
      | (refine (in_yes _ _ _ _ (by omega)).mono ?_; rintro e w1 ⟨rfl, rfl⟩; go_wp2_with fail)
      | (refine (in_no _ _ _ _ (by omega)).mono ?_; rintro e w1 ⟨rfl, rfl⟩; go_wp2_with fail))
    go_wp2
    go_ret
    exact ⟨rfl, rfl⟩
  by_cases e5 : r = 12288
  · subst e5
    rw [if_neg (by omega), if_pos (by omega)]
    go_enter Tryd.func18, Tryd.ntmps18
    go_wp2_with fail
    refine CL.out.mono ?_
    rintro e w1 ⟨rfl, rfl⟩
    go_wp2_with fail
    repeat (first
      | (refine (in_yes _ _ _ _ (by omega)).mono ?_; rintro e w1 ⟨rfl, rfl⟩; go_wp2_with fail)
      | (refine (in_no _ _ _ _ (by omega)).mono ?_; rintro e w1 ⟨rfl, rfl⟩; go_wp2_with fail))
    go_wp2
    go_ret
    exact ⟨rfl, rfl⟩
  have f0 : (r == 32) = false := beq_eq_false_iff_ne.2 e0
  have f1 : (r == 133) = false := beq_eq_false_iff_ne.2 e1
  have f2 : (r == 160) = false := beq_eq_false_iff_ne.2 e2
  have f3 : (r == 8232) = false := beq_eq_false_iff_ne.2 e3
  have f4 : (r == 8233) = false := beq_eq_false_iff_ne.2 e4
  have f5 : (r == 12288) = false := beq_eq_false_iff_ne.2 e5
  rcases (show r ≤ 8 ∨ (9 ≤ r ∧ r ≤ 13) ∨ (14 ≤ r ∧ r ≤ 47) ∨ (48 ≤ r ∧ r ≤ 57) ∨ (58 ≤ r ∧ r ≤ 1631) ∨ (1632 ≤ r ∧ r ≤ 1641) ∨ (1642 ≤ r ∧ r ≤ 2405) ∨ (2406 ≤ r ∧ r ≤ 2415) ∨ (2416 ≤ r ∧ r ≤ 8191) ∨ (8192 ≤ r ∧ r ≤ 8202) ∨ 8203 ≤ r by omega) with h | h | h | h | h | h | h | h | h | h | h
  · rw [if_neg (by omega), if_neg (by omega)]
    go_enter Tryd.func18, Tryd.ntmps18
    go_wp2_with fail
    refine CL.out.mono ?_
    rintro e w1 ⟨rfl, rfl⟩
    go_wp2_with fail
    repeat (first
      | (refine (in_yes _ _ _ _ (by omega)).mono ?_; rintro e w1 ⟨rfl, rfl⟩; go_wp2_with fail)
      | (refine (in_no _ _ _ _ (by omega)).mono ?_; rintro e w1 ⟨rfl, rfl⟩; go_wp2_with fail))
    go_wp2
    go_ret
    exact ⟨rfl, rfl⟩
  · rw [if_neg (by omega), if_pos (by omega)]
    obtain ⟨h1, h2⟩ := h
    go_enter Tryd.func18, Tryd.ntmps18
    go_wp2_with fail
    refine CL.out.mono ?_
    rintro e w1 ⟨rfl, rfl⟩
    go_wp2_with fail
    repeat (first
      | (refine (in_yes _ _ _ _ (by omega)).mono ?_; rintro e w1 ⟨rfl, rfl⟩; go_wp2_with fail)
      | (refine (in_no _ _ _ _ (by omega)).mono ?_; rintro e w1 ⟨rfl, rfl⟩; go_wp2_with fail))
    go_wp2
    go_ret
    exact ⟨rfl, rfl⟩
  · rw [if_neg (by omega), if_neg (by omega)]
    obtain ⟨h1, h2⟩ := h
    go_enter Tryd.func18, Tryd.ntmps18
    go_wp2_with fail
    refine CL.out.mono ?_
    rintro e w1 ⟨rfl, rfl⟩
    go_wp2_with fail
    repeat (first
      | (refine (in_yes _ _ _ _ (by omega)).mono ?_; rintro e w1 ⟨rfl, rfl⟩; go_wp2_with fail)
      | (refine (in_no _ _ _ _ (by omega)).mono ?_; rintro e w1 ⟨rfl, rfl⟩; go_wp2_with fail))
    go_wp2
    go_ret
    exact ⟨rfl, rfl⟩
  · rw [if_pos (by omega)]
    obtain ⟨h1, h2⟩ := h
    go_enter Tryd.func18, Tryd.ntmps18
    go_wp2_with fail
    refine CL.out.mono ?_
    rintro e w1 ⟨rfl, rfl⟩
    go_wp2_with fail
    repeat (first
      | (refine (in_yes _ _ _ _ (by omega)).mono ?_; rintro e w1 ⟨rfl, rfl⟩; go_wp2_with fail)
      | (refine (in_no _ _ _ _ (by omega)).mono ?_; rintro e w1 ⟨rfl, rfl⟩; go_wp2_with fail))
    go_wp2
    go_ret
    exact ⟨rfl, rfl⟩
  · rw [if_neg (by omega), if_neg (by omega)]
    obtain ⟨h1, h2⟩ := h
    go_enter Tryd.func18, Tryd.ntmps18
    go_wp2_with fail
    refine CL.out.mono ?_
    rintro e w1 ⟨rfl, rfl⟩
    go_wp2_with fail
    repeat (first
      | (refine (in_yes _ _ _ _ (by omega)).mono ?_; rintro e w1 ⟨rfl, rfl⟩; go_wp2_with fail)
      | (refine (in_no _ _ _ _ (by omega)).mono ?_; rintro e w1 ⟨rfl, rfl⟩; go_wp2_with fail))
    go_wp2
    go_ret
    exact ⟨rfl, rfl⟩
  · rw [if_pos (by omega)]
    obtain ⟨h1, h2⟩ := h
    go_enter Tryd.func18, Tryd.ntmps18
    go_wp2_with fail
    refine CL.out.mono ?_
    rintro e w1 ⟨rfl, rfl⟩
    go_wp2_with fail
    repeat (first
      | (refine (in_yes _ _ _ _ (by omega)).mono ?_; rintro e w1 ⟨rfl, rfl⟩; go_wp2_with fail)
      | (refine (in_no _ _ _ _ (by omega)).mono ?_; rintro e w1 ⟨rfl, rfl⟩; go_wp2_with fail))
    go_wp2
    go_ret
    exact ⟨rfl, rfl⟩
  · rw [if_neg (by omega), if_neg (by omega)]
    obtain ⟨h1, h2⟩ := h
    go_enter Tryd.func18, Tryd.ntmps18
    go_wp2_with fail
    refine CL.out.mono ?_
    rintro e w1 ⟨rfl, rfl⟩
    go_wp2_with fail
    repeat (first
      | (refine (in_yes _ _ _ _ (by omega)).mono ?_; rintro e w1 ⟨rfl, rfl⟩; go_wp2_with fail)
      | (refine (in_no _ _ _ _ (by omega)).mono ?_; rintro e w1 ⟨rfl, rfl⟩; go_wp2_with fail))
    go_wp2
    go_ret
    exact ⟨rfl, rfl⟩
  · rw [if_pos (by omega)]
    obtain ⟨h1, h2⟩ := h
    go_enter Tryd.func18, Tryd.ntmps18
    go_wp2_with fail
    refine CL.out.mono ?_
    rintro e w1 ⟨rfl, rfl⟩
    go_wp2_with fail
    repeat (first
      | (refine (in_yes _ _ _ _ (by omega)).mono ?_; rintro e w1 ⟨rfl, rfl⟩; go_wp2_with fail)
      | (refine (in_no _ _ _ _ (by omega)).mono ?_; rintro e w1 ⟨rfl, rfl⟩; go_wp2_with fail))
    go_wp2
    go_ret
    exact ⟨rfl, rfl⟩
  · rw [if_neg (by omega), if_neg (by omega)]
    obtain ⟨h1, h2⟩ := h
    go_enter Tryd.func18, Tryd.ntmps18
    go_wp2_with fail
    refine CL.out.mono ?_
    rintro e w1 ⟨rfl, rfl⟩
    go_wp2_with fail
    repeat (first
      | (refine (in_yes _ _ _ _ (by omega)).mono ?_; rintro e w1 ⟨rfl, rfl⟩; go_wp2_with fail)
      | (refine (in_no _ _ _ _ (by omega)).mono ?_; rintro e w1 ⟨rfl, rfl⟩; go_wp2_with fail))
    go_wp2
    go_ret
    exact ⟨rfl, rfl⟩
  · rw [if_neg (by omega), if_pos (by omega)]
    obtain ⟨h1, h2⟩ := h
    go_enter Tryd.func18, Tryd.ntmps18
    go_wp2_with fail
    refine CL.out.mono ?_
    rintro e w1 ⟨rfl, rfl⟩
    go_wp2_with fail
    repeat (first
      | (refine (in_yes _ _ _ _ (by omega)).mono ?_; rintro e w1 ⟨rfl, rfl⟩; go_wp2_with fail)
      | (refine (in_no _ _ _ _ (by omega)).mono ?_; rintro e w1 ⟨rfl, rfl⟩; go_wp2_with fail))
    go_wp2
    go_ret
    exact ⟨rfl, rfl⟩
  · rw [if_neg (by omega), if_neg (by omega)]
    go_enter Tryd.func18, Tryd.ntmps18
    go_wp2_with fail
    refine CL.out.mono ?_
    rintro e w1 ⟨rfl, rfl⟩
    go_wp2_with fail
    repeat (first
      | (refine (in_yes _ _ _ _ (by omega)).mono ?_; rintro e w1 ⟨rfl, rfl⟩; go_wp2_with fail)
      | (refine (in_no _ _ _ _ (by omega)).mono ?_; rintro e w1 ⟨rfl, rfl⟩; go_wp2_with fail))
    go_wp2
    go_ret
    exact ⟨rfl, rfl⟩
/-- What a rune is folded to. -/
def foldI (r : Int) : Int :=
  if (65 ≤ r ∧ r ≤ 90) ∨ (192 ≤ r ∧ r ≤ 222 ∧ r ≠ 215) ∨ (1040 ≤ r ∧ r ≤ 1071) ∨ (913 ≤ r ∧ r ≤ 937 ∧ r ≠ 930) then r + 32 else
  if r = 962 then 963 else
  if 1024 ≤ r ∧ r ≤ 1039 then r + 80 else
  if (256 ≤ r ∧ r ≤ 303) ∨ (330 ≤ r ∧ r ≤ 375) ∨ (1120 ≤ r ∧ r ≤ 1153) ∨ (1162 ≤ r ∧ r ≤ 1215) ∨ (1232 ≤ r ∧ r ≤ 1327) then r + 1 - r % 2 else
  if (313 ≤ r ∧ r ≤ 328) ∨ (377 ≤ r ∧ r ≤ 382) then r + r % 2 else
  if 1329 ≤ r ∧ r ≤ 1366 then r + 48 else r
set_option maxRecDepth 100000 in
set_option maxHeartbeats 16000000 in
theorem fold_any (r : Int) (w : World) (hr : -9223372036854775808 ≤ r ∧ r ≤ 9223372036854775807) : Calls Tryd.prog 35 #[.int .i64 r] w fun e w' => e = .returned (.int .i64 (foldI r)) ∧ w = w' := by
  unfold foldI
  by_cases e0 : r = 215
  · subst e0
    rw [if_neg (by omega), if_neg (by omega), if_neg (by omega), if_neg (by omega), if_neg (by omega), if_neg (by omega)]
    go_enter Tryd.func35, Tryd.ntmps35
    go_wp2_with fail
    repeat (first
      | (refine (in_yes _ _ _ _ (by omega)).mono ?_; rintro e w1 ⟨rfl, rfl⟩; go_wp2_with fail)
      | (refine (in_no _ _ _ _ (by omega)).mono ?_; rintro e w1 ⟨rfl, rfl⟩; go_wp2_with fail))
    go_wp2
    go_ret
    exact ⟨rfl, rfl⟩
  by_cases e1 : r = 930
  · subst e1
    rw [if_neg (by omega), if_neg (by omega), if_neg (by omega), if_neg (by omega), if_neg (by omega), if_neg (by omega)]
    go_enter Tryd.func35, Tryd.ntmps35
    go_wp2_with fail
    repeat (first
      | (refine (in_yes _ _ _ _ (by omega)).mono ?_; rintro e w1 ⟨rfl, rfl⟩; go_wp2_with fail)
      | (refine (in_no _ _ _ _ (by omega)).mono ?_; rintro e w1 ⟨rfl, rfl⟩; go_wp2_with fail))
    go_wp2
    go_ret
    exact ⟨rfl, rfl⟩
  by_cases e2 : r = 962
  · subst e2
    rw [if_neg (by omega), if_pos (by omega)]
    go_enter Tryd.func35, Tryd.ntmps35
    go_wp2_with fail
    repeat (first
      | (refine (in_yes _ _ _ _ (by omega)).mono ?_; rintro e w1 ⟨rfl, rfl⟩; go_wp2_with fail)
      | (refine (in_no _ _ _ _ (by omega)).mono ?_; rintro e w1 ⟨rfl, rfl⟩; go_wp2_with fail))
    go_wp2
    go_ret
    exact ⟨rfl, rfl⟩
  have f0 : (r == 215) = false := beq_eq_false_iff_ne.2 e0
  have g0 : (r != 215) = true := by simpa using e0
  have f1 : (r == 930) = false := beq_eq_false_iff_ne.2 e1
  have g1 : (r != 930) = true := by simpa using e1
  have f2 : (r == 962) = false := beq_eq_false_iff_ne.2 e2
  have g2 : (r != 962) = true := by simpa using e2
  rcases (show r ≤ 64 ∨ (65 ≤ r ∧ r ≤ 90) ∨ (91 ≤ r ∧ r ≤ 191) ∨ (192 ≤ r ∧ r ≤ 222) ∨ (223 ≤ r ∧ r ≤ 255) ∨ (256 ≤ r ∧ r ≤ 303) ∨ (304 ≤ r ∧ r ≤ 312) ∨ (313 ≤ r ∧ r ≤ 328) ∨ (329 ≤ r ∧ r ≤ 329) ∨ (330 ≤ r ∧ r ≤ 375) ∨ (376 ≤ r ∧ r ≤ 376) ∨ (377 ≤ r ∧ r ≤ 382) ∨ (383 ≤ r ∧ r ≤ 912) ∨ (913 ≤ r ∧ r ≤ 937) ∨ (938 ≤ r ∧ r ≤ 1023) ∨ (1024 ≤ r ∧ r ≤ 1039) ∨ (1040 ≤ r ∧ r ≤ 1071) ∨ (1072 ≤ r ∧ r ≤ 1119) ∨ (1120 ≤ r ∧ r ≤ 1153) ∨ (1154 ≤ r ∧ r ≤ 1161) ∨ (1162 ≤ r ∧ r ≤ 1215) ∨ (1216 ≤ r ∧ r ≤ 1231) ∨ (1232 ≤ r ∧ r ≤ 1327) ∨ (1328 ≤ r ∧ r ≤ 1328) ∨ (1329 ≤ r ∧ r ≤ 1366) ∨ 1367 ≤ r by omega) with h | h | h | h | h | h | h | h | h | h | h | h | h | h | h | h | h | h | h | h | h | h | h | h | h | h
  · rw [if_neg (by omega), if_neg (by omega), if_neg (by omega), if_neg (by omega), if_neg (by omega), if_neg (by omega)]
    go_enter Tryd.func35, Tryd.ntmps35
    go_wp2_with fail
    repeat (first
      | (refine (in_yes _ _ _ _ (by omega)).mono ?_; rintro e w1 ⟨rfl, rfl⟩; go_wp2_with fail)
      | (refine (in_no _ _ _ _ (by omega)).mono ?_; rintro e w1 ⟨rfl, rfl⟩; go_wp2_with fail))
    go_wp2
    go_ret
    exact ⟨rfl, rfl⟩
  · rw [if_pos (by omega)]
    obtain ⟨h1, h2⟩ := h
    go_enter Tryd.func35, Tryd.ntmps35
    go_wp2_with fail
    repeat (first
      | (refine (in_yes _ _ _ _ (by omega)).mono ?_; rintro e w1 ⟨rfl, rfl⟩; go_wp2_with fail)
      | (refine (in_no _ _ _ _ (by omega)).mono ?_; rintro e w1 ⟨rfl, rfl⟩; go_wp2_with fail))
    go_wp2
    go_ret
    exact ⟨rfl, rfl⟩
  · rw [if_neg (by omega), if_neg (by omega), if_neg (by omega), if_neg (by omega), if_neg (by omega), if_neg (by omega)]
    obtain ⟨h1, h2⟩ := h
    go_enter Tryd.func35, Tryd.ntmps35
    go_wp2_with fail
    repeat (first
      | (refine (in_yes _ _ _ _ (by omega)).mono ?_; rintro e w1 ⟨rfl, rfl⟩; go_wp2_with fail)
      | (refine (in_no _ _ _ _ (by omega)).mono ?_; rintro e w1 ⟨rfl, rfl⟩; go_wp2_with fail))
    go_wp2
    go_ret
    exact ⟨rfl, rfl⟩
  · rw [if_pos (by omega)]
    obtain ⟨h1, h2⟩ := h
    go_enter Tryd.func35, Tryd.ntmps35
    go_wp2_with fail
    repeat (first
      | (refine (in_yes _ _ _ _ (by omega)).mono ?_; rintro e w1 ⟨rfl, rfl⟩; go_wp2_with fail)
      | (refine (in_no _ _ _ _ (by omega)).mono ?_; rintro e w1 ⟨rfl, rfl⟩; go_wp2_with fail))
    go_wp2
    go_ret
    exact ⟨rfl, rfl⟩
  · rw [if_neg (by omega), if_neg (by omega), if_neg (by omega), if_neg (by omega), if_neg (by omega), if_neg (by omega)]
    obtain ⟨h1, h2⟩ := h
    go_enter Tryd.func35, Tryd.ntmps35
    go_wp2_with fail
    repeat (first
      | (refine (in_yes _ _ _ _ (by omega)).mono ?_; rintro e w1 ⟨rfl, rfl⟩; go_wp2_with fail)
      | (refine (in_no _ _ _ _ (by omega)).mono ?_; rintro e w1 ⟨rfl, rfl⟩; go_wp2_with fail))
    go_wp2
    go_ret
    exact ⟨rfl, rfl⟩
  · rw [if_neg (by omega), if_neg (by omega), if_neg (by omega), if_pos (by omega)]
    obtain ⟨h1, h2⟩ := h
    go_enter Tryd.func35, Tryd.ntmps35
    go_wp2_with fail
    repeat (first
      | (refine (in_yes _ _ _ _ (by omega)).mono ?_; rintro e w1 ⟨rfl, rfl⟩; go_wp2_with fail)
      | (refine (in_no _ _ _ _ (by omega)).mono ?_; rintro e w1 ⟨rfl, rfl⟩; go_wp2_with fail))
    go_wp2
    go_ret
    exact ⟨rfl, rfl⟩
  · rw [if_neg (by omega), if_neg (by omega), if_neg (by omega), if_neg (by omega), if_neg (by omega), if_neg (by omega)]
    obtain ⟨h1, h2⟩ := h
    go_enter Tryd.func35, Tryd.ntmps35
    go_wp2_with fail
    repeat (first
      | (refine (in_yes _ _ _ _ (by omega)).mono ?_; rintro e w1 ⟨rfl, rfl⟩; go_wp2_with fail)
      | (refine (in_no _ _ _ _ (by omega)).mono ?_; rintro e w1 ⟨rfl, rfl⟩; go_wp2_with fail))
    go_wp2
    go_ret
    exact ⟨rfl, rfl⟩
  · rw [if_neg (by omega), if_neg (by omega), if_neg (by omega), if_neg (by omega), if_pos (by omega)]
    obtain ⟨h1, h2⟩ := h
    go_enter Tryd.func35, Tryd.ntmps35
    go_wp2_with fail
    repeat (first
      | (refine (in_yes _ _ _ _ (by omega)).mono ?_; rintro e w1 ⟨rfl, rfl⟩; go_wp2_with fail)
      | (refine (in_no _ _ _ _ (by omega)).mono ?_; rintro e w1 ⟨rfl, rfl⟩; go_wp2_with fail))
    go_wp2
    go_ret
    exact ⟨rfl, rfl⟩
  · rw [if_neg (by omega), if_neg (by omega), if_neg (by omega), if_neg (by omega), if_neg (by omega), if_neg (by omega)]
    obtain ⟨h1, h2⟩ := h
    go_enter Tryd.func35, Tryd.ntmps35
    go_wp2_with fail
    repeat (first
      | (refine (in_yes _ _ _ _ (by omega)).mono ?_; rintro e w1 ⟨rfl, rfl⟩; go_wp2_with fail)
      | (refine (in_no _ _ _ _ (by omega)).mono ?_; rintro e w1 ⟨rfl, rfl⟩; go_wp2_with fail))
    go_wp2
    go_ret
    exact ⟨rfl, rfl⟩
  · rw [if_neg (by omega), if_neg (by omega), if_neg (by omega), if_pos (by omega)]
    obtain ⟨h1, h2⟩ := h
    go_enter Tryd.func35, Tryd.ntmps35
    go_wp2_with fail
    repeat (first
      | (refine (in_yes _ _ _ _ (by omega)).mono ?_; rintro e w1 ⟨rfl, rfl⟩; go_wp2_with fail)
      | (refine (in_no _ _ _ _ (by omega)).mono ?_; rintro e w1 ⟨rfl, rfl⟩; go_wp2_with fail))
    go_wp2
    go_ret
    exact ⟨rfl, rfl⟩
  · rw [if_neg (by omega), if_neg (by omega), if_neg (by omega), if_neg (by omega), if_neg (by omega), if_neg (by omega)]
    obtain ⟨h1, h2⟩ := h
    go_enter Tryd.func35, Tryd.ntmps35
    go_wp2_with fail
    repeat (first
      | (refine (in_yes _ _ _ _ (by omega)).mono ?_; rintro e w1 ⟨rfl, rfl⟩; go_wp2_with fail)
      | (refine (in_no _ _ _ _ (by omega)).mono ?_; rintro e w1 ⟨rfl, rfl⟩; go_wp2_with fail))
    go_wp2
    go_ret
    exact ⟨rfl, rfl⟩
  · rw [if_neg (by omega), if_neg (by omega), if_neg (by omega), if_neg (by omega), if_pos (by omega)]
    obtain ⟨h1, h2⟩ := h
    go_enter Tryd.func35, Tryd.ntmps35
    go_wp2_with fail
    repeat (first
      | (refine (in_yes _ _ _ _ (by omega)).mono ?_; rintro e w1 ⟨rfl, rfl⟩; go_wp2_with fail)
      | (refine (in_no _ _ _ _ (by omega)).mono ?_; rintro e w1 ⟨rfl, rfl⟩; go_wp2_with fail))
    go_wp2
    go_ret
    exact ⟨rfl, rfl⟩
  · rw [if_neg (by omega), if_neg (by omega), if_neg (by omega), if_neg (by omega), if_neg (by omega), if_neg (by omega)]
    obtain ⟨h1, h2⟩ := h
    go_enter Tryd.func35, Tryd.ntmps35
    go_wp2_with fail
    repeat (first
      | (refine (in_yes _ _ _ _ (by omega)).mono ?_; rintro e w1 ⟨rfl, rfl⟩; go_wp2_with fail)
      | (refine (in_no _ _ _ _ (by omega)).mono ?_; rintro e w1 ⟨rfl, rfl⟩; go_wp2_with fail))
    go_wp2
    go_ret
    exact ⟨rfl, rfl⟩
  · rw [if_pos (by omega)]
    obtain ⟨h1, h2⟩ := h
    go_enter Tryd.func35, Tryd.ntmps35
    go_wp2_with fail
    repeat (first
      | (refine (in_yes _ _ _ _ (by omega)).mono ?_; rintro e w1 ⟨rfl, rfl⟩; go_wp2_with fail)
      | (refine (in_no _ _ _ _ (by omega)).mono ?_; rintro e w1 ⟨rfl, rfl⟩; go_wp2_with fail))
    go_wp2
    go_ret
    exact ⟨rfl, rfl⟩
  · rw [if_neg (by omega), if_neg (by omega), if_neg (by omega), if_neg (by omega), if_neg (by omega), if_neg (by omega)]
    obtain ⟨h1, h2⟩ := h
    go_enter Tryd.func35, Tryd.ntmps35
    go_wp2_with fail
    repeat (first
      | (refine (in_yes _ _ _ _ (by omega)).mono ?_; rintro e w1 ⟨rfl, rfl⟩; go_wp2_with fail)
      | (refine (in_no _ _ _ _ (by omega)).mono ?_; rintro e w1 ⟨rfl, rfl⟩; go_wp2_with fail))
    go_wp2
    go_ret
    exact ⟨rfl, rfl⟩
  · rw [if_neg (by omega), if_neg (by omega), if_pos (by omega)]
    obtain ⟨h1, h2⟩ := h
    go_enter Tryd.func35, Tryd.ntmps35
    go_wp2_with fail
    repeat (first
      | (refine (in_yes _ _ _ _ (by omega)).mono ?_; rintro e w1 ⟨rfl, rfl⟩; go_wp2_with fail)
      | (refine (in_no _ _ _ _ (by omega)).mono ?_; rintro e w1 ⟨rfl, rfl⟩; go_wp2_with fail))
    go_wp2
    go_ret
    exact ⟨rfl, rfl⟩
  · rw [if_pos (by omega)]
    obtain ⟨h1, h2⟩ := h
    go_enter Tryd.func35, Tryd.ntmps35
    go_wp2_with fail
    repeat (first
      | (refine (in_yes _ _ _ _ (by omega)).mono ?_; rintro e w1 ⟨rfl, rfl⟩; go_wp2_with fail)
      | (refine (in_no _ _ _ _ (by omega)).mono ?_; rintro e w1 ⟨rfl, rfl⟩; go_wp2_with fail))
    go_wp2
    go_ret
    exact ⟨rfl, rfl⟩
  · rw [if_neg (by omega), if_neg (by omega), if_neg (by omega), if_neg (by omega), if_neg (by omega), if_neg (by omega)]
    obtain ⟨h1, h2⟩ := h
    go_enter Tryd.func35, Tryd.ntmps35
    go_wp2_with fail
    repeat (first
      | (refine (in_yes _ _ _ _ (by omega)).mono ?_; rintro e w1 ⟨rfl, rfl⟩; go_wp2_with fail)
      | (refine (in_no _ _ _ _ (by omega)).mono ?_; rintro e w1 ⟨rfl, rfl⟩; go_wp2_with fail))
    go_wp2
    go_ret
    exact ⟨rfl, rfl⟩
  · rw [if_neg (by omega), if_neg (by omega), if_neg (by omega), if_pos (by omega)]
    obtain ⟨h1, h2⟩ := h
    go_enter Tryd.func35, Tryd.ntmps35
    go_wp2_with fail
    repeat (first
      | (refine (in_yes _ _ _ _ (by omega)).mono ?_; rintro e w1 ⟨rfl, rfl⟩; go_wp2_with fail)
      | (refine (in_no _ _ _ _ (by omega)).mono ?_; rintro e w1 ⟨rfl, rfl⟩; go_wp2_with fail))
    go_wp2
    go_ret
    exact ⟨rfl, rfl⟩
  · rw [if_neg (by omega), if_neg (by omega), if_neg (by omega), if_neg (by omega), if_neg (by omega), if_neg (by omega)]
    obtain ⟨h1, h2⟩ := h
    go_enter Tryd.func35, Tryd.ntmps35
    go_wp2_with fail
    repeat (first
      | (refine (in_yes _ _ _ _ (by omega)).mono ?_; rintro e w1 ⟨rfl, rfl⟩; go_wp2_with fail)
      | (refine (in_no _ _ _ _ (by omega)).mono ?_; rintro e w1 ⟨rfl, rfl⟩; go_wp2_with fail))
    go_wp2
    go_ret
    exact ⟨rfl, rfl⟩
  · rw [if_neg (by omega), if_neg (by omega), if_neg (by omega), if_pos (by omega)]
    obtain ⟨h1, h2⟩ := h
    go_enter Tryd.func35, Tryd.ntmps35
    go_wp2_with fail
    repeat (first
      | (refine (in_yes _ _ _ _ (by omega)).mono ?_; rintro e w1 ⟨rfl, rfl⟩; go_wp2_with fail)
      | (refine (in_no _ _ _ _ (by omega)).mono ?_; rintro e w1 ⟨rfl, rfl⟩; go_wp2_with fail))
    go_wp2
    go_ret
    exact ⟨rfl, rfl⟩
  · rw [if_neg (by omega), if_neg (by omega), if_neg (by omega), if_neg (by omega), if_neg (by omega), if_neg (by omega)]
    obtain ⟨h1, h2⟩ := h
    go_enter Tryd.func35, Tryd.ntmps35
    go_wp2_with fail
    repeat (first
      | (refine (in_yes _ _ _ _ (by omega)).mono ?_; rintro e w1 ⟨rfl, rfl⟩; go_wp2_with fail)
      | (refine (in_no _ _ _ _ (by omega)).mono ?_; rintro e w1 ⟨rfl, rfl⟩; go_wp2_with fail))
    go_wp2
    go_ret
    exact ⟨rfl, rfl⟩
  · rw [if_neg (by omega), if_neg (by omega), if_neg (by omega), if_pos (by omega)]
    obtain ⟨h1, h2⟩ := h
    go_enter Tryd.func35, Tryd.ntmps35
    go_wp2_with fail
    repeat (first
      | (refine (in_yes _ _ _ _ (by omega)).mono ?_; rintro e w1 ⟨rfl, rfl⟩; go_wp2_with fail)
      | (refine (in_no _ _ _ _ (by omega)).mono ?_; rintro e w1 ⟨rfl, rfl⟩; go_wp2_with fail))
    go_wp2
    go_ret
    exact ⟨rfl, rfl⟩
  · rw [if_neg (by omega), if_neg (by omega), if_neg (by omega), if_neg (by omega), if_neg (by omega), if_neg (by omega)]
    obtain ⟨h1, h2⟩ := h
    go_enter Tryd.func35, Tryd.ntmps35
    go_wp2_with fail
    repeat (first
      | (refine (in_yes _ _ _ _ (by omega)).mono ?_; rintro e w1 ⟨rfl, rfl⟩; go_wp2_with fail)
      | (refine (in_no _ _ _ _ (by omega)).mono ?_; rintro e w1 ⟨rfl, rfl⟩; go_wp2_with fail))
    go_wp2
    go_ret
    exact ⟨rfl, rfl⟩
  · rw [if_neg (by omega), if_neg (by omega), if_neg (by omega), if_neg (by omega), if_neg (by omega), if_pos (by omega)]
    obtain ⟨h1, h2⟩ := h
    go_enter Tryd.func35, Tryd.ntmps35
    go_wp2_with fail
    repeat (first
      | (refine (in_yes _ _ _ _ (by omega)).mono ?_; rintro e w1 ⟨rfl, rfl⟩; go_wp2_with fail)
      | (refine (in_no _ _ _ _ (by omega)).mono ?_; rintro e w1 ⟨rfl, rfl⟩; go_wp2_with fail))
    go_wp2
    go_ret
    exact ⟨rfl, rfl⟩
  · rw [if_neg (by omega), if_neg (by omega), if_neg (by omega), if_neg (by omega), if_neg (by omega), if_neg (by omega)]
    go_enter Tryd.func35, Tryd.ntmps35
    go_wp2_with fail
    repeat (first
      | (refine (in_yes _ _ _ _ (by omega)).mono ?_; rintro e w1 ⟨rfl, rfl⟩; go_wp2_with fail)
      | (refine (in_no _ _ _ _ (by omega)).mono ?_; rintro e w1 ⟨rfl, rfl⟩; go_wp2_with fail))
    go_wp2
    go_ret
    exact ⟨rfl, rfl⟩
end Go.Proofs.YtbblmpibekkbfaaDoor
