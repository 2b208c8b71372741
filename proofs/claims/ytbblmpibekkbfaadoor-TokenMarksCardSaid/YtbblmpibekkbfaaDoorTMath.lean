/- Words of a text in plain lists: the pieces of a text grouped into words, and what folding and a blank between do to them. -/
import Derived.Test.YtbblmpibekkbfaaDoorUMath
namespace Go.Proofs.YtbblmpibekkbfaaDoor

abbrev It := Int × List UInt8
/-- A text behind which no byte goes on is cut by itself. -/
theorem rune_sep {L T : List UInt8} (h : L ≠ []) (hT : T.takeWhile cont = []) : runeL (L ++ T) = runeL L := by
  cases e : dec L with
  | some x =>
    obtain ⟨r, n⟩ := x
    obtain ⟨a1, a2, a3, a4⟩ := dec_some e
    have hL : L ++ T = byts r ++ (L.drop n ++ T) := by rw [← List.append_assoc, a2, List.take_append_drop]
    rw [hL, rune_byts r _ a1]
    unfold runeL; rw [e, a3]
  | none =>
    cases L with
    | nil => exact absurd rfl h
    | cons a R =>
      have h1 : dec (a :: (R ++ T)) = none := by
        rw [dec_mask] at e ⊢
        have : (R ++ T).takeWhile cont = R.takeWhile cont := by
          clear e h
          induction R with
          | nil => simpa using hT
          | cons b R ih =>
            by_cases hb : cont b = true
            · rw [List.cons_append, List.takeWhile_cons_of_pos hb, List.takeWhile_cons_of_pos hb, ih]
            · rw [List.cons_append, List.takeWhile_cons_of_neg hb, List.takeWhile_cons_of_neg hb]
        rw [this]; exact e
      unfold runeL
      rw [e]
      show (match dec (a :: (R ++ T)) with | some (r, n) => ((r : Int), n) | none => (-1, _)) = _
      rw [h1]
      simp
theorem cut_sep (L : List UInt8) {T : List UInt8} (hT : T.takeWhile cont = []) : cut (L ++ T) = cut L ++ cut T := by
  suffices hh : ∀ k (L : List UInt8), L.length ≤ k → cut (L ++ T) = cut L ++ cut T from hh _ L (Nat.le_refl _)
  intro k
  induction k with
  | zero => intro L h; rw [List.length_eq_zero_iff.1 (show L.length = 0 by omega)]; rfl
  | succ k ih =>
    intro L h
    by_cases hL : L = []
    · subst hL; rfl
    · have hp := rune_pos hL
      have hne : L ++ T ≠ [] := fun e => hL (List.append_eq_nil_iff.1 e).1
      rw [cut_cons hne, cut_cons hL, rune_sep hL hT, List.take_append_of_le_length hp.2.1, List.drop_append_of_le_length hp.2.1, ih _ (by rw [List.length_drop]; omega)]
      rfl
/-- Pieces that are runes, written one behind the other, are cut into themselves. -/
def isRuneIt (x : It) : Prop := ∃ r : Nat, x = ((r : Int), byts r) ∧ isRn r = true
theorem cut_runes (g : List It) (h : ∀ x ∈ g, isRuneIt x) : cut (g.flatMap (·.2)) = g := by
  induction g with
  | nil => rfl
  | cons x g ih =>
    obtain ⟨r, rfl, hr⟩ := h x (by simp)
    rw [List.flatMap_cons]
    show cut (byts r ++ _) = _
    rw [cut_byts r _ hr, ih (fun y hy => h y (by simp [hy]))]
theorem cut_items (L : List UInt8) : ∀ x ∈ cut L, isRuneIt x ∨ x.1 < 0 := by
  suffices hh : ∀ k (L : List UInt8), L.length ≤ k → ∀ x ∈ cut L, isRuneIt x ∨ x.1 < 0 from hh _ L (Nat.le_refl _)
  intro k
  induction k with
  | zero => intro L h x hx; rw [List.length_eq_zero_iff.1 (show L.length = 0 by omega)] at hx; cases hx
  | succ k ih =>
    intro L h x hx
    by_cases hL : L = []
    · subst hL; cases hx
    · have hp := rune_pos hL
      rw [cut_cons hL] at hx
      rcases List.mem_cons.1 hx with rfl | hx
      · by_cases h0 : (runeL L).1 < 0
        · exact .inr h0
        · obtain ⟨r, e1, e2, e3⟩ := rune_ge (show 0 ≤ (runeL L).1 by omega)
          exact .inl ⟨r, by rw [e1, e3], e2⟩
      · exact ih _ (by rw [List.length_drop]; omega) x hx

/-- Does a piece belong to a word? -/
def isWR (k : Nat) : Bool := kindR k == 1 || kindR k == 2
def isW (x : It) : Bool := decide (0 ≤ x.1) && isWR x.1.toNat
theorem isW_fold (x : It) : isW (foldP x) = isW x := by
  unfold foldP
  by_cases h : x.1 < 0
  · rw [if_pos h]
  · rw [if_neg h]
    unfold isW isWR
    dsimp only
    rw [Int.toNat_natCast, fold_kind, decide_eq_true (show 0 ≤ x.1 by omega), decide_eq_true (by omega)]
theorem isW_pos {x : It} (h : isW x = true) : 0 ≤ x.1 := by
  unfold isW at h
  rw [Bool.and_eq_true, decide_eq_true_eq] at h
  exact h.1
/-- One more piece: the words so far, and does the last one go on? -/
def putLast {α : Type} (x : α) : List (List α) → List (List α)
  | [] => [[x]]
  | [g] => [g ++ [x]]
  | g :: r => g :: putLast x r
def gStep (o : List (List It) × Bool) (x : It) : List (List It) × Bool := if isW x = true then (if o.2 = true then putLast x o.1 else o.1 ++ [[x]], true) else (o.1, false)
def grps (l : List It) : List (List It) := (l.foldl gStep ([], false)).1
theorem putLast_map {α β : Type} (f : α → β) (x : α) : ∀ o : List (List α), putLast (f x) (o.map (List.map f)) = (putLast x o).map (List.map f)
  | [] => rfl
  | [g] => by simp [putLast]
  | g :: h :: r => by
    have := putLast_map f x (h :: r)
    simp only [List.map_cons] at this ⊢
    unfold putLast
    rw [this]
    rfl
theorem grps_fold (l : List It) : grps (l.map foldP) = (grps l).map (List.map foldP) := by
  suffices h : ∀ (l : List It) (o : List (List It) × Bool), (l.map foldP).foldl gStep (o.1.map (List.map foldP), o.2) = ((l.foldl gStep o).1.map (List.map foldP), (l.foldl gStep o).2) by
    have := h l ([], false)
    unfold grps
    rw [show (([] : List (List It)), false) = ((([] : List (List It)), false).1.map (List.map foldP), (([] : List (List It)), false).2) from rfl, this]
    rfl
  intro l
  induction l with
  | nil => intro o; rfl
  | cons x l ih =>
    intro o
    rw [List.map_cons, List.foldl_cons, List.foldl_cons, ← ih]
    congr 1
    unfold gStep
    rw [isW_fold]
    split
    · split
      · rw [putLast_map]
      · simp
    · rfl
theorem putLast_all {α : Type} (Q : List α → Prop) (x : α) (h1 : Q [x]) (h2 : ∀ g, Q g → Q (g ++ [x])) : ∀ o : List (List α), (∀ g ∈ o, Q g) → ∀ g ∈ putLast x o, Q g
  | [], _, g, hg => by simp only [putLast, List.mem_singleton] at hg; subst hg; exact h1
  | [q], ho, g, hg => by simp only [putLast, List.mem_singleton] at hg; subst hg; exact h2 q (ho q (by simp))
  | q :: q2 :: r, ho, g, hg => by
    simp only [putLast] at hg
    rcases List.mem_cons.1 hg with rfl | hg
    · exact ho _ (by simp)
    · exact putLast_all Q x h1 h2 (q2 :: r) (fun g hg => ho g (List.mem_cons_of_mem _ hg)) g hg
/-- A word has pieces, all of them a word's. -/
def WordG (l : List It) (g : List It) : Prop := g ≠ [] ∧ ∀ x ∈ g, x ∈ l ∧ isW x = true
theorem grps_items (l : List It) : ∀ g ∈ grps l, WordG l g := by
  suffices h : ∀ (m : List It) (o : List (List It) × Bool), (∀ x ∈ m, x ∈ l) → (∀ g ∈ o.1, WordG l g) → ∀ g ∈ (m.foldl gStep o).1, WordG l g from h l ([], false) (fun _ h => h) (fun g hg => by cases hg)
  intro m
  induction m with
  | nil => intro o _ ho; exact ho
  | cons x m ih =>
    intro o hm ho
    rw [List.foldl_cons]
    refine ih _ (fun y hy => hm y (by simp [hy])) ?_
    have hx := hm x (by simp)
    unfold gStep
    split
    · rename_i hw
      split
      · exact putLast_all (WordG l) x ⟨by simp, fun y hy => by rw [List.mem_singleton.1 hy]; exact ⟨hx, hw⟩⟩ (fun g hg => ⟨by simp, fun y hy => by
          rcases List.mem_append.1 hy with hy | hy
          · exact hg.2 y hy
          · rw [List.mem_singleton.1 hy]; exact ⟨hx, hw⟩⟩) o.1 ho
      · intro g hg
        rcases List.mem_append.1 hg with hg | hg
        · exact ho g hg
        · rw [List.mem_singleton.1 hg]; exact ⟨by simp, fun y hy => by rw [List.mem_singleton.1 hy]; exact ⟨hx, hw⟩⟩
    · exact ho
/-- Nothing but a word's pieces: one word. -/
theorem putLast_snoc {α : Type} (x : α) : ∀ (o : List (List α)) (g : List α), putLast x (o ++ [g]) = o ++ [g ++ [x]]
  | [], g => rfl
  | [q], g => rfl
  | q :: q2 :: r, g => by
    have := putLast_snoc x (q2 :: r) g
    rw [List.cons_append, List.cons_append] at this ⊢
    unfold putLast
    rw [this]
    rfl
theorem fold_word (g : List It) (hg : ∀ x ∈ g, isW x = true) : ∀ (o : List (List It)) (p : List It), g.foldl gStep (o ++ [p], true) = (o ++ [p ++ g], true) := by
  induction g with
  | nil => intro o p; rw [List.append_nil]; rfl
  | cons x g ih =>
    intro o p
    rw [List.foldl_cons]
    have e : gStep (o ++ [p], true) x = (o ++ [p ++ [x]], true) := by
      unfold gStep
      rw [if_pos (hg x (by simp)), if_pos rfl]
      dsimp only
      rw [putLast_snoc]
    rw [e, ih (fun y hy => hg y (by simp [hy])) o (p ++ [x]), List.append_assoc]
    rfl
theorem grps_word {g : List It} (h : g ≠ []) (hg : ∀ x ∈ g, isW x = true) : grps g = [g] := by
  cases g with
  | nil => exact absurd rfl h
  | cons x g =>
    unfold grps
    rw [List.foldl_cons]
    have e : gStep ([], false) x = ([] ++ [[x]], true) := by unfold gStep; rw [if_pos (hg x (by simp)), if_neg (by simp)]
    rw [e, fold_word g (fun y hy => hg y (by simp [hy])) [] [x]]
    rfl
/-- From a piece that is no word's on the words go on by themselves. -/
theorem fold_apart (b : List It) : ∀ o : List (List It), (b.foldl gStep (o, false)).1 = o ++ grps b := by
  suffices h : ∀ (b : List It) (o q : List (List It)) (c : Bool), (c = true → q ≠ []) → (b.foldl gStep (o ++ q, c)).1 = o ++ (b.foldl gStep (q, c)).1 by
    intro o
    have := h b o [] false (by simp)
    rw [List.append_nil] at this
    exact this
  intro b
  induction b with
  | nil => intro o q c _; rfl
  | cons x b ih =>
    intro o q c hc
    rw [List.foldl_cons, List.foldl_cons]
    unfold gStep
    dsimp only
    by_cases hw : isW x = true
    · rw [if_pos hw, if_pos hw]
      cases c with
      | true =>
        rw [if_pos rfl, if_pos rfl]
        have hq := hc rfl
        obtain ⟨q0, g, rfl⟩ : ∃ q0 g, q = q0 ++ [g] := ⟨q.dropLast, q.getLast hq, (List.dropLast_concat_getLast hq).symm⟩
        rw [← List.append_assoc, putLast_snoc, putLast_snoc, List.append_assoc]
        exact ih o _ true (fun _ => by simp)
      | false =>
        rw [if_neg (by simp), if_neg (by simp), List.append_assoc]
        exact ih o _ true (fun _ => by simp)
    · rw [if_neg hw, if_neg hw]
      exact ih o q false (by simp)
theorem grps_sep (a b : List It) (x : It) (hx : isW x = false) : grps (a ++ x :: b) = grps a ++ grps b := by
  unfold grps
  rw [List.foldl_append, List.foldl_cons]
  have e : gStep (a.foldl gStep ([], false)) x = ((a.foldl gStep ([], false)).1, false) := by unfold gStep; rw [if_neg (by rw [hx]; simp)]
  rw [e]
  exact fold_apart b _
/-- A word's term. -/
def termG (g : List It) : List UInt8 := foldedL (g.flatMap (·.2))
theorem word_runes {L : List UInt8} {g : List It} (h : g ∈ grps (cut L)) : g ≠ [] ∧ (∀ x ∈ g, isW x = true) ∧ ∀ x ∈ g, isRuneIt x := by
  obtain ⟨h1, h2⟩ := grps_items _ g h
  refine ⟨h1, fun x hx => (h2 x hx).2, fun x hx => ?_⟩
  rcases cut_items L x (h2 x hx).1 with h | h
  · exact h
  · have := isW_pos (h2 x hx).2; omega
theorem foldP_rune {x : It} (h : isRuneIt x) : isRuneIt (foldP x) := by
  obtain ⟨r, rfl, hr⟩ := h
  refine ⟨foldR r, ?_, fold_rn r hr⟩
  unfold foldP
  rw [if_neg (by dsimp only; omega)]
  rfl
theorem foldP_twice (x : It) : foldP (foldP x) = foldP x := by
  unfold foldP
  by_cases h : x.1 < 0
  · rw [if_pos h, if_pos h]
  · rw [if_neg h]
    dsimp only
    rw [if_neg (by omega), Int.toNat_natCast, fold_fold]
theorem term_runes {g : List It} (h : ∀ x ∈ g, isRuneIt x) : termG g = (g.map foldP).flatMap (·.2) := by
  unfold termG foldedL
  rw [cut_runes g h]
theorem term_fold {g : List It} (h : ∀ x ∈ g, isRuneIt x) : termG (g.map foldP) = termG g := by
  rw [term_runes h, term_runes (fun x hx => by obtain ⟨y, hy, rfl⟩ := List.mem_map.1 hx; exact foldP_rune (h y hy)), List.map_map]
  congr 1
  apply List.map_congr_left
  intro x _
  exact foldP_twice x
/-- The words of a text that was folded: the same terms. -/
theorem terms_fold (L : List UInt8) : (grps (cut (foldedL L))).map termG = (grps (cut L)).map termG := by
  rw [(fold_cut L).1, grps_fold, List.map_map]
  apply List.map_congr_left
  intro g hg
  exact term_fold (word_runes hg).2.2
/-- A term is one word, and its own term. -/
theorem term_alone {L : List UInt8} {g : List It} (h : g ∈ grps (cut L)) : (grps (cut (termG g))).map termG = [termG g] := by
  obtain ⟨h1, h2, h3⟩ := word_runes h
  have h4 : ∀ x ∈ g.map foldP, isRuneIt x := fun x hx => by obtain ⟨y, hy, rfl⟩ := List.mem_map.1 hx; exact foldP_rune (h3 y hy)
  rw [term_runes h3, cut_runes _ h4, grps_word (by simpa using h1) (fun x hx => by obtain ⟨y, hy, rfl⟩ := List.mem_map.1 hx; rw [isW_fold]; exact h2 y hy)]
  show [termG (g.map foldP)] = _
  rw [term_fold h3, term_runes h3]
/-- A text, a blank, another text. -/
theorem grps_blank (L T : List UInt8) : grps (cut (L ++ 32 :: T)) = grps (cut L) ++ grps (cut T) := by
  have hc : (32 :: T : List UInt8).takeWhile cont = [] := by rw [List.takeWhile_cons_of_neg]; decide
  rw [cut_sep L hc, show (32 :: T : List UInt8) = byts 32 ++ T from rfl, cut_byts 32 T (by decide), grps_sep _ _ _ (by decide)]
end Go.Proofs.YtbblmpibekkbfaaDoor
