/- What the program's tables of kinds and foldings say is what the document says. -/
import Derived.Test.YtbblmpibekkbfaaDoorUTab
import Derived.Test.YtbblmpibekkbfaaDoorUKinds
namespace Go.Proofs.YtbblmpibekkbfaaDoor
open Go.RowKit

/-- The first row that says something of c. -/
def scanK : List (Int × Int × Int) → Int → Int
  | [], _ => 0
  | (a, b, k) :: T, c => if c < a then 0 else if c ≤ b then k else scanK T c
def scanF : List (Int × Int × Int × Int) → Int → Int
  | [], c => c
  | (a, b, e, d) :: T, c => if c < a then c else if c ≤ b ∧ (c - a) % e = 0 then c + d else scanF T c
theorem scanK_skip (c : Int) : ∀ (T U : List (Int × Int × Int)), (∀ x ∈ T, x.1 ≤ c ∧ x.2.1 < c) → scanK (T ++ U) c = scanK U c
  | [], _, _ => rfl
  | (a, b, k) :: T, U, h => by
    have h0 := h _ (List.mem_cons_self ..)
    show (if c < a then 0 else if c ≤ b then k else scanK (T ++ U) c) = _
    rw [if_neg (by have := h0.1; omega), if_neg (by have := h0.2; dsimp only at this; omega)]
    exact scanK_skip c T U fun x hx => h x (List.mem_cons_of_mem _ hx)
theorem scanF_skip (c : Int) : ∀ (T U : List (Int × Int × Int × Int)), (∀ x ∈ T, x.1 ≤ c ∧ x.2.1 < c) → scanF (T ++ U) c = scanF U c
  | [], _, _ => rfl
  | (a, b, e, d) :: T, U, h => by
    have h0 := h _ (List.mem_cons_self ..)
    show (if c < a then c else if c ≤ b ∧ (c - a) % e = 0 then c + d else scanF (T ++ U) c) = _
    rw [if_neg (by have := h0.1; omega), if_neg (by have := h0.2; dsimp only at this; omega)]
    exact scanF_skip c T U fun x hx => h x (List.mem_cons_of_mem _ hx)
set_option maxRecDepth 1000000 in
theorem scanK_low : ∀ r : Fin 1520, scanK kindsT (r.1 : Int) = ((kindI (r.1 : Int) : Nat) : Int) := by decide +kernel
set_option maxRecDepth 1000000 in
theorem scanF_low : ∀ r : Fin 1367, scanF foldsT (r.1 : Int) = foldI (r.1 : Int) := by decide +kernel
theorem kindI_neg {c : Int} (h : c < 0) : kindI c = 0 := by
  have e : letterI c = false := by unfold letterI; exact decide_eq_false (by omega)
  unfold kindI
  rw [if_neg (by rw [e]; decide), if_neg (by omega), if_neg (by omega)]
theorem kindI_high {c : Int} (h : 1520 ≤ c) : kindI c = if (19968 ≤ c ∧ c ≤ 40959) ∨ (44032 ≤ c ∧ c ≤ 55203) then 1 else if (1632 ≤ c ∧ c ≤ 1641) ∨ (2406 ≤ c ∧ c ≤ 2415) then 2 else if (8192 ≤ c ∧ c ≤ 8202) ∨ c = 8232 ∨ c = 8233 ∨ c = 12288 then 3 else 0 := by
  have e : letterI c = decide ((19968 ≤ c ∧ c ≤ 40959) ∨ (44032 ≤ c ∧ c ≤ 55203)) := by unfold letterI; rw [decide_eq_decide]; omega
  unfold kindI
  rw [e]
  by_cases h1 : (19968 ≤ c ∧ c ≤ 40959) ∨ (44032 ≤ c ∧ c ≤ 55203)
  · rw [if_pos (by rw [decide_eq_true h1]), if_pos h1]
  rw [if_neg (by rw [decide_eq_false h1]; decide), if_neg h1]
  by_cases h2 : (1632 ≤ c ∧ c ≤ 1641) ∨ (2406 ≤ c ∧ c ≤ 2415)
  · rw [if_pos (by omega), if_pos h2]
  rw [if_neg (by omega), if_neg h2]
  by_cases h3 : (8192 ≤ c ∧ c ≤ 8202) ∨ c = 8232 ∨ c = 8233 ∨ c = 12288
  · rw [if_pos (by omega), if_pos h3]
  rw [if_neg (by omega), if_neg h3]
theorem scanK_kind (c : Int) : scanK kindsT c = ((kindI c : Nat) : Int) := by
  by_cases h0 : c < 0
  · rw [kindI_neg h0]
    show (if c < 9 then _ else _) = _
    rw [if_pos (by omega)]; rfl
  by_cases h1 : c < 1520
  · obtain ⟨r, rfl⟩ := Int.eq_ofNat_of_zero_le (show 0 ≤ c by omega)
    exact scanK_low ⟨r, by omega⟩
  have hs : scanK kindsT c = scanK (kindsT.drop 27) c := by
    refine scanK_skip c (kindsT.take 27) (kindsT.drop 27) fun x hx => ?_
    have : ∀ x ∈ kindsT.take 27, x.1 ≤ 1519 ∧ x.2.1 ≤ 1519 := by decide
    have := this x hx
    omega
  rw [hs, kindI_high (by omega)]
  show (if c < 1632 then 0 else if c ≤ 1641 then 2 else if c < 2406 then 0 else if c ≤ 2415 then 2 else if c < 8192 then 0 else if c ≤ 8202 then 3 else if c < 8232 then 0 else if c ≤ 8233 then 3 else if c < 12288 then 0 else if c ≤ 12288 then 3 else if c < 19968 then 0 else if c ≤ 40959 then 1 else if c < 44032 then 0 else if c ≤ 55203 then 1 else 0) = _
  by_cases a0 : c < 1632
  · rw [if_pos a0]; rw [if_neg (by omega), if_neg (by omega), if_neg (by omega)]; rfl
  rw [if_neg a0]
  by_cases b0 : c ≤ 1641
  · rw [if_pos b0]; rw [if_neg (by omega), if_pos (by omega)]; rfl
  rw [if_neg b0]
  by_cases a1 : c < 2406
  · rw [if_pos a1]; rw [if_neg (by omega), if_neg (by omega), if_neg (by omega)]; rfl
  rw [if_neg a1]
  by_cases b1 : c ≤ 2415
  · rw [if_pos b1]; rw [if_neg (by omega), if_pos (by omega)]; rfl
  rw [if_neg b1]
  by_cases a2 : c < 8192
  · rw [if_pos a2]; rw [if_neg (by omega), if_neg (by omega), if_neg (by omega)]; rfl
  rw [if_neg a2]
  by_cases b2 : c ≤ 8202
  · rw [if_pos b2]; rw [if_neg (by omega), if_neg (by omega), if_pos (by omega)]; rfl
  rw [if_neg b2]
  by_cases a3 : c < 8232
  · rw [if_pos a3]; rw [if_neg (by omega), if_neg (by omega), if_neg (by omega)]; rfl
  rw [if_neg a3]
  by_cases b3 : c ≤ 8233
  · rw [if_pos b3]; rw [if_neg (by omega), if_neg (by omega), if_pos (by omega)]; rfl
  rw [if_neg b3]
  by_cases a4 : c < 12288
  · rw [if_pos a4]; rw [if_neg (by omega), if_neg (by omega), if_neg (by omega)]; rfl
  rw [if_neg a4]
  by_cases b4 : c ≤ 12288
  · rw [if_pos b4]; rw [if_neg (by omega), if_neg (by omega), if_pos (by omega)]; rfl
  rw [if_neg b4]
  by_cases a5 : c < 19968
  · rw [if_pos a5]; rw [if_neg (by omega), if_neg (by omega), if_neg (by omega)]; rfl
  rw [if_neg a5]
  by_cases b5 : c ≤ 40959
  · rw [if_pos b5]; rw [if_pos (by omega)]; rfl
  rw [if_neg b5]
  by_cases a6 : c < 44032
  · rw [if_pos a6]; rw [if_neg (by omega), if_neg (by omega), if_neg (by omega)]; rfl
  rw [if_neg a6]
  by_cases b6 : c ≤ 55203
  · rw [if_pos b6]; rw [if_pos (by omega)]; rfl
  rw [if_neg b6]
  rw [if_neg (by omega), if_neg (by omega), if_neg (by omega)]; rfl
theorem foldI_out {c : Int} (h : c < 65 ∨ 1366 < c) : foldI c = c := by
  unfold foldI
  rw [if_neg (by omega), if_neg (by omega), if_neg (by omega), if_neg (by omega), if_neg (by omega), if_neg (by omega)]
theorem scanF_fold (c : Int) : scanF foldsT c = foldI c := by
  by_cases h0 : c < 0
  · rw [foldI_out (.inl (by omega))]
    show (if c < 65 then _ else _) = _
    rw [if_pos (by omega)]
  by_cases h1 : c < 1367
  · obtain ⟨r, rfl⟩ := Int.eq_ofNat_of_zero_le (show 0 ≤ c by omega)
    exact scanF_low ⟨r, by omega⟩
  rw [foldI_out (.inr (by omega))]
  refine (scanF_skip c foldsT [] fun x hx => ?_)
  have : ∀ x ∈ foldsT, x.1 ≤ 1366 ∧ x.2.1 ≤ 1366 := by decide
  have := this x hx
  omega
theorem kindI_no {c : Int} (h : isI c = false) : kindI c = 0 := by
  unfold isI at h
  have h := of_decide_eq_false h
  by_cases h0 : c < 0
  · exact kindI_neg h0
  · rw [kindI_high (by omega), if_neg (by omega), if_neg (by omega), if_neg (by omega)]
theorem foldI_no {c : Int} (h : isI c = false) : foldI c = c := by
  unfold isI at h
  have h := of_decide_eq_false h
  exact foldI_out (by omega)
/-- From the k-th row on. -/
theorem scanK_at {k : Nat} (h : k < kindsT.length) (c : Int) : scanK (kindsT.drop k) c = if c < kindsT[k].1 then 0 else if c ≤ kindsT[k].2.1 then kindsT[k].2.2 else scanK (kindsT.drop (k + 1)) c := by
  rw [List.drop_eq_getElem_cons h]; rfl
theorem scanF_at {k : Nat} (h : k < foldsT.length) (c : Int) : scanF (foldsT.drop k) c = if c < foldsT[k].1 then c else if c ≤ foldsT[k].2.1 ∧ (c - foldsT[k].1) % foldsT[k].2.2.1 = 0 then c + foldsT[k].2.2.2 else scanF (foldsT.drop (k + 1)) c := by
  rw [List.drop_eq_getElem_cons h]; rfl
theorem kindsT_ok : ∀ x ∈ kindsT, 0 ≤ x.1 ∧ x.1 ≤ 1114111 ∧ 0 ≤ x.2.1 ∧ x.2.1 ≤ 1114111 ∧ 0 ≤ x.2.2 ∧ x.2.2 ≤ 3 := by decide
theorem foldsT_ok : ∀ x ∈ foldsT, 0 ≤ x.1 ∧ x.1 ≤ 1400 ∧ 0 ≤ x.2.1 ∧ x.2.1 ≤ 1400 ∧ (x.2.2.1 = 1 ∨ x.2.2.1 = 2) ∧ 0 ≤ x.2.2.2 ∧ x.2.2.2 ≤ 80 := by decide
end Go.Proofs.YtbblmpibekkbfaaDoor
