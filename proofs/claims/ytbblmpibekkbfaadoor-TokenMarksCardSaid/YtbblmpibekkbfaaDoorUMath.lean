/- Runes in plain lists of bytes: what begins a text, a text cut into runes and bytes that begin none, folded. -/
import Derived.Lib.Hide
namespace Go.Proofs.YtbblmpibekkbfaaDoor

def cont (b : UInt8) : Bool := decide (0x80 ≤ b.toNat ∧ b.toNat < 0xC0)
def isRn (r : Nat) : Bool := decide (r ≤ 0x10FFFF ∧ (r < 0xD800 ∨ 0xDFFF < r))
/-- A rune's bytes. -/
def byts (r : Nat) : List UInt8 :=
  if r < 0x80 then [UInt8.ofNat r] else
  if r < 0x800 then [UInt8.ofNat (0xC0 + r / 64), UInt8.ofNat (0x80 + r % 64)] else
  if r < 0x10000 then [UInt8.ofNat (0xE0 + r / 4096), UInt8.ofNat (0x80 + r / 64 % 64), UInt8.ofNat (0x80 + r % 64)] else
  [UInt8.ofNat (0xF0 + r / 262144), UInt8.ofNat (0x80 + r / 4096 % 64), UInt8.ofNat (0x80 + r / 64 % 64), UInt8.ofNat (0x80 + r % 64)]
def d2 (a b : UInt8) : Nat := (a.toNat - 0xC0) * 64 + (b.toNat - 0x80)
def d3 (a b c : UInt8) : Nat := ((a.toNat - 0xE0) * 64 + (b.toNat - 0x80)) * 64 + (c.toNat - 0x80)
def d4 (a b c d : UInt8) : Nat := (((a.toNat - 0xF0) * 64 + (b.toNat - 0x80)) * 64 + (c.toNat - 0x80)) * 64 + (d.toNat - 0x80)
/-- The rune whose bytes a list begins with, and how many these are. -/
def dec : List UInt8 → Option (Nat × Nat)
  | [] => none
  | a :: R =>
    if a.toNat < 0x80 then some (a.toNat, 1) else
    match R with
    | [] => none
    | b :: R =>
      if 0xC2 ≤ a.toNat ∧ a.toNat < 0xE0 ∧ cont b = true then some (d2 a b, 2) else
      match R with
      | [] => none
      | c :: R =>
        if (0xE0 ≤ a.toNat ∧ a.toNat < 0xF0 ∧ cont b = true ∧ cont c = true) ∧ 0x800 ≤ d3 a b c ∧ isRn (d3 a b c) = true then some (d3 a b c, 3) else
        match R with
        | [] => none
        | d :: _ =>
          if (0xF0 ≤ a.toNat ∧ a.toNat < 0xF8 ∧ cont b = true ∧ cont c = true ∧ cont d = true) ∧ 0x10000 ≤ d4 a b c d ∧ d4 a b c d ≤ 0x10FFFF then some (d4 a b c d, 4) else none

theorem u8_of (n : Nat) (h : n < 256) : (UInt8.ofNat n).toNat = n := by
  rw [UInt8.toNat_ofNat']; omega
theorem u8_eq {a b : UInt8} (h : a.toNat = b.toNat) : a = b := UInt8.toNat_inj.1 h
theorem byts_len (r : Nat) : (byts r).length = if r < 0x80 then 1 else if r < 0x800 then 2 else if r < 0x10000 then 3 else 4 := by
  unfold byts
  split
  · rfl
  split
  · rfl
  split
  · rfl
  · rfl
theorem dec_byts (r : Nat) (T : List UInt8) (h : isRn r = true) : dec (byts r ++ T) = some (r, (byts r).length) := by
  have hr : r ≤ 0x10FFFF ∧ (r < 0xD800 ∨ 0xDFFF < r) := by unfold isRn at h; exact of_decide_eq_true h
  rw [byts_len]
  unfold byts
  by_cases h1 : r < 0x80
  · rw [if_pos h1, if_pos h1]
    show (if _ then _ else _) = _
    rw [u8_of r (by omega), if_pos h1]
  rw [if_neg h1, if_neg h1]
  by_cases h2 : r < 0x800
  · rw [if_pos h2, if_pos h2]
    have e0 := u8_of (0xC0 + r / 64) (by omega)
    have e1 := u8_of (0x80 + r % 64) (by omega)
    show (if _ then _ else (if _ then _ else _)) = _
    unfold cont d2
    rw [e0, e1, if_neg (by omega), if_pos (by rw [decide_eq_true_eq]; omega)]
    rw [show (0xC0 + r / 64 - 0xC0) * 64 + (0x80 + r % 64 - 0x80) = r by omega]
  rw [if_neg h2, if_neg h2]
  by_cases h3 : r < 0x10000
  · rw [if_pos h3, if_pos h3]
    have e0 := u8_of (0xE0 + r / 4096) (by omega)
    have e1 := u8_of (0x80 + r / 64 % 64) (by omega)
    have e2 := u8_of (0x80 + r % 64) (by omega)
    have ev : ((0xE0 + r / 4096 - 0xE0) * 64 + (0x80 + r / 64 % 64 - 0x80)) * 64 + (0x80 + r % 64 - 0x80) = r := by omega
    show (if _ then _ else (if _ then _ else (if _ then _ else _))) = _
    unfold cont d3
    rw [e0, e1, e2, ev, if_neg (by omega), if_neg (by omega), if_pos (by simp only [decide_eq_true_eq]; exact ⟨by omega, by omega, h⟩)]
  rw [if_neg h3, if_neg h3]
  have e0 := u8_of (0xF0 + r / 262144) (by omega)
  have e1 := u8_of (0x80 + r / 4096 % 64) (by omega)
  have e2 := u8_of (0x80 + r / 64 % 64) (by omega)
  have e3 := u8_of (0x80 + r % 64) (by omega)
  have ev : (((0xF0 + r / 262144 - 0xF0) * 64 + (0x80 + r / 4096 % 64 - 0x80)) * 64 + (0x80 + r / 64 % 64 - 0x80)) * 64 + (0x80 + r % 64 - 0x80) = r := by omega
  show (if _ then _ else (if _ then _ else (if _ then _ else (if _ then _ else _)))) = _
  unfold cont d4
  rw [e0, e1, e2, e3, ev, if_neg (by omega), if_neg (by omega), if_neg (by omega), if_pos (by simp only [decide_eq_true_eq]; exact ⟨by omega, by omega, by omega⟩)]
theorem cont_of {b : UInt8} (h : cont b = true) : 0x80 ≤ b.toNat ∧ b.toNat < 0xC0 := by unfold cont at h; exact of_decide_eq_true h
set_option maxRecDepth 100000 in
theorem dec_some {L : List UInt8} {r n : Nat} (h : dec L = some (r, n)) : isRn r = true ∧ byts r = L.take n ∧ n = (byts r).length ∧ n ≤ L.length := by
  unfold dec at h
  split at h
  · cases h
  rename_i a R
  have ha := a.toNat_lt
  split at h
  · rename_i h1
    cases h
    have e : byts a.toNat = [a] := by unfold byts; rw [if_pos h1, u8_eq (u8_of a.toNat (by omega))]
    rw [e]
    refine ⟨?_, rfl, rfl, by simp⟩
    unfold isRn; rw [decide_eq_true_eq]; omega
  rename_i h1
  split at h
  · cases h
  rename_i b R
  have hb := b.toNat_lt
  split at h
  · rename_i h2
    obtain ⟨x1, x2, x3⟩ := h2
    have x3 := cont_of x3
    cases h
    have e : byts (d2 a b) = [a, b] := by
      unfold byts d2
      rw [if_neg (by omega), if_pos (by omega)]
      rw [u8_eq (a := UInt8.ofNat (0xC0 + _)) (b := a) (by rw [u8_of _ (by omega)]; omega), u8_eq (a := UInt8.ofNat (0x80 + _)) (b := b) (by rw [u8_of _ (by omega)]; omega)]
    rw [e]
    refine ⟨?_, rfl, rfl, by simp⟩
    unfold isRn d2; rw [decide_eq_true_eq]; omega
  split at h
  · cases h
  rename_i c R
  have hc := c.toNat_lt
  split at h
  · rename_i h3
    obtain ⟨⟨x1, x2, x3, x4⟩, x5, x6⟩ := h3
    have x3 := cont_of x3; have x4 := cont_of x4
    cases h
    have e : byts (d3 a b c) = [a, b, c] := by
      unfold byts
      rw [if_neg (by omega), if_neg (by omega)]
      unfold d3
      rw [if_pos (by omega)]
      rw [u8_eq (a := UInt8.ofNat (0xE0 + _)) (b := a) (by rw [u8_of _ (by omega)]; omega), u8_eq (a := UInt8.ofNat (0x80 + _ / 64 % 64)) (b := b) (by rw [u8_of _ (by omega)]; omega), u8_eq (a := UInt8.ofNat (0x80 + _)) (b := c) (by rw [u8_of _ (by omega)]; omega)]
    rw [e]
    exact ⟨x6, rfl, rfl, by simp⟩
  split at h
  · cases h
  rename_i d R
  have hd := d.toNat_lt
  split at h
  · rename_i h4
    obtain ⟨⟨x1, x2, x3, x4, x5⟩, x6, x7⟩ := h4
    have x3 := cont_of x3; have x4 := cont_of x4; have x5 := cont_of x5
    cases h
    have e : byts (d4 a b c d) = [a, b, c, d] := by
      unfold byts
      rw [if_neg (by omega), if_neg (by omega), if_neg (by omega)]
      unfold d4
      rw [u8_eq (a := UInt8.ofNat (0xF0 + _)) (b := a) (by unfold d4 at x7; rw [u8_of _ (by omega)]; omega), u8_eq (a := UInt8.ofNat (0x80 + _ / 4096 % 64)) (b := b) (by rw [u8_of _ (by omega)]; omega), u8_eq (a := UInt8.ofNat (0x80 + _ / 64 % 64)) (b := c) (by rw [u8_of _ (by omega)]; omega), u8_eq (a := UInt8.ofNat (0x80 + _)) (b := d) (by rw [u8_of _ (by omega)]; omega)]
    rw [e]
    refine ⟨?_, rfl, rfl, by simp⟩
    unfold isRn; rw [decide_eq_true_eq]; omega
  · cases h
theorem dec_pos {L : List UInt8} {r n : Nat} (h : dec L = some (r, n)) : 1 ≤ n ∧ n ≤ 4 := by
  obtain ⟨_, _, e, _⟩ := dec_some h
  rw [byts_len] at e
  split at e
  · omega
  split at e
  · omega
  split at e <;> omega
/-- What a list begins with: a rune and how many bytes it has; -1 and 1; -1 and 0. -/
def runeL (L : List UInt8) : Int × Nat := match dec L with
  | some (r, n) => ((r : Int), n)
  | none => (-1, if L = [] then 0 else 1)
theorem rune_nil : runeL [] = (-1, 0) := rfl
theorem rune_pos {L : List UInt8} (h : L ≠ []) : 1 ≤ (runeL L).2 ∧ (runeL L).2 ≤ L.length ∧ (runeL L).2 ≤ 4 := by
  unfold runeL
  cases e : dec L with
  | some x =>
    obtain ⟨r, n⟩ := x
    exact ⟨(dec_pos e).1, (dec_some e).2.2.2, (dec_pos e).2⟩
  | none =>
    dsimp only
    rw [if_neg h]
    exact ⟨Nat.le_refl _, by cases L with | nil => exact absurd rfl h | cons _ _ => simp, by omega⟩
theorem rune_byts (r : Nat) (T : List UInt8) (h : isRn r = true) : runeL (byts r ++ T) = ((r : Int), (byts r).length) := by
  unfold runeL; rw [dec_byts r T h]
theorem rune_ge {L : List UInt8} (h : 0 ≤ (runeL L).1) : ∃ r : Nat, (runeL L).1 = r ∧ isRn r = true ∧ byts r = L.take (runeL L).2 := by
  unfold runeL at h ⊢
  cases e : dec L with
  | some x => obtain ⟨r, n⟩ := x; exact ⟨r, rfl, (dec_some e).1, (dec_some e).2.1⟩
  | none => rw [e] at h; dsimp only at h; omega
theorem rune_lt {L : List UInt8} (h : (runeL L).1 < 0) : dec L = none ∧ (runeL L).1 = -1 ∧ (L ≠ [] → (runeL L).2 = 1) := by
  unfold runeL at h ⊢
  cases e : dec L with
  | some x => obtain ⟨r, n⟩ := x; rw [e] at h; dsimp only at h; omega
  | none => exact ⟨rfl, rfl, fun hh => by dsimp only; rw [if_neg hh]⟩

/-- A text cut into runes and bytes that begin none. -/
def cutF : Nat → List UInt8 → List (Int × List UInt8)
  | 0, _ => []
  | k + 1, L => if L = [] then [] else ((runeL L).1, L.take (runeL L).2) :: cutF k (L.drop (runeL L).2)
def cut (L : List UInt8) : List (Int × List UInt8) := cutF L.length L
theorem cut_fuel : ∀ (k : Nat) (L : List UInt8), L.length ≤ k → cutF k L = cut L := by
  have h : ∀ (k m : Nat) (L : List UInt8), L.length ≤ k → L.length ≤ m → cutF k L = cutF m L := by
    intro k
    induction k with
    | zero =>
      intro m L h1 h2
      have : L = [] := List.length_eq_zero_iff.1 (by omega)
      subst this
      cases m <;> rfl
    | succ k ih =>
      intro m L h1 h2
      by_cases hL : L = []
      · subst hL; cases m <;> rfl
      · have hp := rune_pos hL
        cases m with
        | zero => exact absurd (List.length_eq_zero_iff.1 (by omega)) hL
        | succ m =>
          show (if L = [] then _ else _) = (if L = [] then _ else _)
          rw [if_neg hL, if_neg hL, ih m _ (by rw [List.length_drop]; omega) (by rw [List.length_drop]; omega)]
  exact fun k L hk => h k L.length L hk (Nat.le_refl _)
theorem cut_nil : cut [] = [] := rfl
theorem cut_cons {L : List UInt8} (h : L ≠ []) : cut L = ((runeL L).1, L.take (runeL L).2) :: cut (L.drop (runeL L).2) := by
  have hp := rune_pos h
  obtain ⟨k, hk⟩ : ∃ k, L.length = k + 1 := ⟨L.length - 1, by omega⟩
  unfold cut
  rw [hk]
  show (if L = [] then _ else _) = _
  rw [if_neg h, cut_fuel k _ (by rw [List.length_drop]; omega)]
  rfl
theorem cut_join (L : List UInt8) : (cut L).flatMap (·.2) = L := by
  suffices h : ∀ k (L : List UInt8), L.length ≤ k → (cut L).flatMap (·.2) = L from h _ L (Nat.le_refl _)
  intro k
  induction k with
  | zero => intro L h; rw [List.length_eq_zero_iff.1 (show L.length = 0 by omega)]; rfl
  | succ k ih =>
    intro L h
    by_cases hL : L = []
    · subst hL; rfl
    · have hp := rune_pos hL
      rw [cut_cons hL, List.flatMap_cons, ih _ (by rw [List.length_drop]; omega), List.take_append_drop]
theorem cut_byts (r : Nat) (T : List UInt8) (h : isRn r = true) : cut (byts r ++ T) = ((r : Int), byts r) :: cut T := by
  have hl : 1 ≤ (byts r).length := (dec_pos (dec_byts r T h)).1
  have hne : byts r ++ T ≠ [] := fun e => by rw [List.append_eq_nil_iff] at e; rw [e.1] at hl; simp at hl
  rw [cut_cons hne, rune_byts r T h, List.take_left, List.drop_left]

def validL (L : List UInt8) : Bool := (cut L).all fun x => decide (0 ≤ x.1)
theorem valid_nil : validL [] = true := rfl
theorem valid_step {L : List UInt8} (h : L ≠ []) : validL L = (decide (0 ≤ (runeL L).1) && validL (L.drop (runeL L).2)) := by
  unfold validL; rw [cut_cons h, List.all_cons]
theorem valid_byts (r : Nat) (T : List UInt8) (h : isRn r = true) : validL (byts r ++ T) = validL T := by
  unfold validL; rw [cut_byts r T h, List.all_cons]; simp
/-- Two valid texts behind one another are one; behind a valid one the other is cut as it was. -/
theorem cut_append {L : List UInt8} (T : List UInt8) (h : validL L = true) : cut (L ++ T) = cut L ++ cut T := by
  suffices hh : ∀ k (L : List UInt8), L.length ≤ k → validL L = true → cut (L ++ T) = cut L ++ cut T from hh _ L (Nat.le_refl _) h
  intro k
  induction k with
  | zero => intro L hk _; rw [List.length_eq_zero_iff.1 (show L.length = 0 by omega)]; rfl
  | succ k ih =>
    intro L hk hv
    by_cases hL : L = []
    · subst hL; rfl
    · have hp := rune_pos hL
      rw [valid_step hL, Bool.and_eq_true, decide_eq_true_eq] at hv
      obtain ⟨r, e1, e2, e3⟩ := rune_ge hv.1
      have hlen : (L.drop (runeL L).2).length ≤ k := by rw [List.length_drop]; omega
      have hL2 : L = byts r ++ L.drop (runeL L).2 := by rw [e3, List.take_append_drop]
      have ih2 := ih _ hlen hv.2
      rw [cut_cons hL, e1, ← e3]
      conv => lhs; rw [hL2, List.append_assoc]
      rw [cut_byts r _ e2, ih2]
      rfl
theorem valid_append {L T : List UInt8} (h : validL L = true) : validL (L ++ T) = validL T := by
  have h0 := h
  unfold validL at h0 ⊢
  rw [cut_append T h, List.all_append, h0, Bool.true_and]

/-- What a rune is folded to. -/
def foldR (r : Nat) : Nat :=
  if (0x41 ≤ r ∧ r ≤ 0x5A) ∨ (0xC0 ≤ r ∧ r ≤ 0xDE ∧ r ≠ 0xD7) ∨ (0x410 ≤ r ∧ r ≤ 0x42F) ∨ (0x391 ≤ r ∧ r ≤ 0x3A9 ∧ r ≠ 0x3A2) then r + 32 else
  if r = 0x3C2 then 0x3C3 else
  if 0x400 ≤ r ∧ r ≤ 0x40F then r + 80 else
  if (0x100 ≤ r ∧ r ≤ 0x12F) ∨ (0x14A ≤ r ∧ r ≤ 0x177) ∨ (0x460 ≤ r ∧ r ≤ 0x481) ∨ (0x48A ≤ r ∧ r ≤ 0x4BF) ∨ (0x4D0 ≤ r ∧ r ≤ 0x52F) then r + 1 - r % 2 else
  if (0x139 ≤ r ∧ r ≤ 0x148) ∨ (0x179 ≤ r ∧ r ≤ 0x17E) then r + r % 2 else
  if 0x531 ≤ r ∧ r ≤ 0x556 then r + 48 else r
def letterR (r : Nat) : Bool :=
  decide ((0x41 ≤ r ∧ r ≤ 0x5A) ∨ (0x61 ≤ r ∧ r ≤ 0x7A) ∨ r = 0xAA ∨ r = 0xB5 ∨ r = 0xBA ∨ (0xC0 ≤ r ∧ r ≤ 0x24F ∧ r ≠ 0xD7 ∧ r ≠ 0xF7) ∨
    (0x370 ≤ r ∧ r ≤ 0x3FF ∧ r ≠ 0x375 ∧ r ≠ 0x37E ∧ r ≠ 0x378 ∧ r ≠ 0x379 ∧ ¬ (0x380 ≤ r ∧ r ≤ 0x385) ∧ r ≠ 0x387 ∧ r ≠ 0x38B ∧ r ≠ 0x38D ∧ r ≠ 0x3A2 ∧ r ≠ 0x3F6) ∨
    (0x400 ≤ r ∧ r ≤ 0x52F ∧ ¬ (0x482 ≤ r ∧ r ≤ 0x489)) ∨ (0x531 ≤ r ∧ r ≤ 0x556) ∨ (0x561 ≤ r ∧ r ≤ 0x587) ∨ (0x5D0 ≤ r ∧ r ≤ 0x5EA) ∨ (0x4E00 ≤ r ∧ r ≤ 0x9FFF) ∨ (0xAC00 ≤ r ∧ r ≤ 0xD7A3))
def kindR (r : Nat) : Nat :=
  if letterR r = true then 1 else
  if (0x30 ≤ r ∧ r ≤ 0x39) ∨ (0x660 ≤ r ∧ r ≤ 0x669) ∨ (0x966 ≤ r ∧ r ≤ 0x96F) then 2 else
  if (9 ≤ r ∧ r ≤ 13) ∨ r = 32 ∨ r = 0x85 ∨ r = 0xA0 ∨ (0x2000 ≤ r ∧ r ≤ 0x200A) ∨ r = 0x2028 ∨ r = 0x2029 ∨ r = 0x3000 then 3 else 0
theorem fold_out (r : Nat) (h : r < 0x41 ∨ 0x556 < r) : foldR r = r := by
  unfold foldR
  rw [if_neg (by omega), if_neg (by omega), if_neg (by omega), if_neg (by omega), if_neg (by omega), if_neg (by omega)]
theorem fold_all : ∀ r : Fin 0x600, foldR (foldR r.1) = foldR r.1 ∧ kindR (foldR r.1) = kindR r.1 ∧ (byts (foldR r.1)).length = (byts r.1).length ∧ foldR r.1 < 0x800 := by decide +kernel
theorem fold_fold (r : Nat) : foldR (foldR r) = foldR r := by
  by_cases h : r < 0x600
  · exact (fold_all ⟨r, h⟩).1
  · rw [fold_out r (by omega), fold_out r (by omega)]
theorem fold_kind (r : Nat) : kindR (foldR r) = kindR r := by
  by_cases h : r < 0x600
  · exact (fold_all ⟨r, h⟩).2.1
  · rw [fold_out r (by omega)]
theorem fold_rn (r : Nat) (h : isRn r = true) : isRn (foldR r) = true := by
  by_cases h2 : r < 0x600
  · have := (fold_all ⟨r, h2⟩).2.2.2
    dsimp only at this
    unfold isRn; rw [decide_eq_true_eq]; omega
  · rw [fold_out r (by omega)]; exact h

/-- A piece, folded. -/
def foldP (x : Int × List UInt8) : Int × List UInt8 := if x.1 < 0 then x else ((foldR x.1.toNat : Nat), byts (foldR x.1.toNat))
def foldedL (L : List UInt8) : List UInt8 := ((cut L).map foldP).flatMap (·.2)

/-- Nothing but bytes that go on matters behind a byte that begins no rune. -/
theorem dec_mask (a : UInt8) (R : List UInt8) : (dec (a :: R) = none ↔ dec (a :: R.takeWhile cont) = none) := by
  cases R with
  | nil => exact Iff.rfl
  | cons b R =>
    by_cases ha : a.toNat < 0x80
    · constructor
      · intro h; unfold dec at h; dsimp only at h; rw [if_pos ha] at h; cases h
      · intro h; unfold dec at h; dsimp only at h; rw [if_pos ha] at h; cases h
    by_cases hb : cont b = true
    · rw [List.takeWhile_cons_of_pos hb]
      cases R with
      | nil => exact Iff.rfl
      | cons c R =>
        by_cases hc : cont c = true
        · rw [List.takeWhile_cons_of_pos hc]
          cases R with
          | nil => exact Iff.rfl
          | cons d R =>
            by_cases hd : cont d = true
            · rw [List.takeWhile_cons_of_pos hd]
              unfold dec; exact Iff.rfl
            · rw [List.takeWhile_cons_of_neg hd]
              have hd : cont d = false := by simpa using hd
              unfold dec
              dsimp only
              rw [if_neg ha, if_neg ha]
              split
              · exact Iff.rfl
              split
              · exact Iff.rfl
              · rw [if_neg (by rw [hd]; simp)]
        · rw [List.takeWhile_cons_of_neg hc]
          have hc : cont c = false := by simpa using hc
          unfold dec
          dsimp only
          rw [if_neg ha, if_neg ha]
          split
          · exact Iff.rfl
          · rw [if_neg (by rw [hc]; simp)]
            cases R with
            | nil => exact Iff.rfl
            | cons d R => dsimp only; rw [if_neg (by rw [hc]; simp)]
    · rw [List.takeWhile_cons_of_neg hb]
      have hb : cont b = false := by simpa using hb
      unfold dec
      dsimp only
      rw [if_neg ha, if_neg ha]
      rw [if_neg (by rw [hb]; simp)]
      cases R with
      | nil => exact Iff.rfl
      | cons c R =>
        dsimp only
        rw [if_neg (by rw [hb]; simp)]
        cases R with
        | nil => exact Iff.rfl
        | cons d R => dsimp only; rw [if_neg (by rw [hb]; simp)]
theorem byts_first (r : Nat) (h : isRn r = true) (T : List UInt8) : (byts r ++ T).takeWhile cont = [] := by
  have hr : r ≤ 0x10FFFF := by unfold isRn at h; exact (of_decide_eq_true h).1
  have hc : ∀ (n : Nat) (R : List UInt8), n < 256 → (n < 0x80 ∨ 0xC0 ≤ n) → (UInt8.ofNat n :: R).takeWhile cont = [] := fun n R h1 h2 => by
    rw [List.takeWhile_cons_of_neg]
    unfold cont
    rw [u8_of n h1]
    simp; omega
  unfold byts
  split
  · exact hc _ _ (by omega) (by omega)
  split
  · exact hc _ _ (by omega) (by omega)
  split
  · exact hc _ _ (by omega) (by omega)
  · exact hc _ _ (by omega) (by omega)
/-- The folded pieces are the pieces of the folded text. -/
theorem fold_cut (L : List UInt8) : cut (foldedL L) = (cut L).map foldP ∧ (foldedL L).takeWhile cont = L.takeWhile cont := by
  suffices hh : ∀ k (L : List UInt8), L.length ≤ k → cut (foldedL L) = (cut L).map foldP ∧ (foldedL L).takeWhile cont = L.takeWhile cont from hh _ L (Nat.le_refl _)
  intro k
  induction k with
  | zero => intro L h; rw [List.length_eq_zero_iff.1 (show L.length = 0 by omega)]; exact ⟨rfl, rfl⟩
  | succ k ih =>
    intro L h
    by_cases hL : L = []
    · subst hL; exact ⟨rfl, rfl⟩
    · have hp := rune_pos hL
      obtain ⟨i1, i2⟩ := ih (L.drop (runeL L).2) (by rw [List.length_drop]; omega)
      have hf : foldedL L = (foldP ((runeL L).1, L.take (runeL L).2)).2 ++ foldedL (L.drop (runeL L).2) := by
        unfold foldedL; rw [cut_cons hL]; rfl
      by_cases h0 : (runeL L).1 < 0
      · obtain ⟨e1, e2, e3⟩ := rune_lt h0
        have e3 := e3 hL
        cases L with
        | nil => exact absurd rfl hL
        | cons a R =>
          rw [e3] at hf i1 i2
          have eP : foldP ((runeL (a :: R)).1, (a :: R).take 1) = ((runeL (a :: R)).1, [a]) := by
            unfold foldP; rw [if_pos h0]; rfl
          rw [eP] at hf
          have hd : (a :: R).drop 1 = R := rfl
          rw [hd] at hf i1 i2
          have hf : foldedL (a :: R) = a :: foldedL R := hf
          have hn : dec (a :: foldedL R) = none := by
            rw [dec_mask, i2, ← dec_mask]; exact e1
          have hr : runeL (a :: foldedL R) = (-1, 1) := by unfold runeL; rw [hn]; rfl
          refine ⟨?_, ?_⟩
          · rw [hf, cut_cons (by simp), hr, cut_cons hL, List.map_cons, e3, eP, e2]
            show ((-1 : Int), [a]) :: cut (foldedL R) = _
            rw [i1]; rfl
          · rw [hf]
            by_cases hc : cont a = true
            · rw [List.takeWhile_cons_of_pos hc, List.takeWhile_cons_of_pos hc, i2]
            · rw [List.takeWhile_cons_of_neg hc, List.takeWhile_cons_of_neg hc]
      · obtain ⟨r, e1, e2, e3⟩ := rune_ge (show 0 ≤ (runeL L).1 by omega)
        have eP : foldP ((runeL L).1, L.take (runeL L).2) = (((foldR r : Nat) : Int), byts (foldR r)) := by
          unfold foldP; rw [if_neg h0, e1]; rfl
        rw [eP] at hf
        have hr2 := fold_rn r e2
        refine ⟨?_, ?_⟩
        · rw [hf, cut_byts _ _ hr2, i1, cut_cons hL, List.map_cons, eP]
        · rw [hf, byts_first _ hr2]
          have hL2 : L = byts r ++ L.drop (runeL L).2 := by rw [e3, List.take_append_drop]
          rw [hL2, byts_first _ e2]
theorem fold_valid (L : List UInt8) : validL (foldedL L) = validL L := by
  unfold validL
  rw [(fold_cut L).1, List.all_map]
  congr 1
  funext x
  show decide (0 ≤ (foldP x).1) = _
  unfold foldP
  split
  · rfl
  · rename_i h; dsimp only; rw [decide_eq_true (by omega), decide_eq_true (by omega)]
theorem fold_twice (L : List UInt8) : foldedL (foldedL L) = foldedL L := by
  show ((cut (foldedL L)).map foldP).flatMap (·.2) = ((cut L).map foldP).flatMap (·.2)
  rw [(fold_cut L).1, List.map_map]
  congr 1
  apply List.map_congr_left
  intro x _
  show foldP (foldP x) = foldP x
  unfold foldP
  by_cases h : x.1 < 0
  · rw [if_pos h, if_pos h]
  · rw [if_neg h]
    dsimp only
    rw [if_neg (by omega), Int.toNat_natCast, fold_fold]
/-- A rune cut short is none. -/
theorem dec_short (r : Nat) (h : isRn r = true) : dec ((byts r).take ((byts r).length - 1)) = none := by
  have hl : 1 ≤ (byts r).length := by rw [byts_len]; split; omega; split; omega; split <;> omega
  cases e : dec ((byts r).take ((byts r).length - 1)) with
  | none => rfl
  | some x =>
    obtain ⟨v, n⟩ := x
    obtain ⟨a1, a2, a3, a4⟩ := dec_some e
    have h1 : byts r = byts v ++ (byts r).drop n := by
      rw [a2, List.take_take, Nat.min_eq_left (by rw [List.length_take] at a4; omega), List.take_append_drop]
    have h2 := dec_byts r [] h
    rw [List.append_nil, h1, dec_byts v _ a1] at h2
    have h3 : v = r ∧ (byts v).length = (byts v ++ (byts r).drop n).length := by simpa using h2
    rw [List.length_take] at a4
    obtain ⟨rfl, _⟩ := h3
    omega
end Go.Proofs.YtbblmpibekkbfaaDoor
