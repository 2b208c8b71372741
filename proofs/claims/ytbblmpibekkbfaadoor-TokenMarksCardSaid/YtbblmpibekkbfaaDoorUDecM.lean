/- What the library's decoder answers, in the words of the plain lists. -/
import Derived.Test.YtbblmpibekkbfaaDoorUBase
import Derived.Shelf.Unicode.DecodeSlow
import Derived.Lib.TrimUEq
import Derived.Lib.ValidU
import Derived.Lib.RuneBytes
namespace Go.Proofs.YtbblmpibekkbfaaDoor
open Go.RowKit

/-- The rune that four numbers begin with, n of them being there. -/
def decM (n a b c d : Nat) : Option (Nat × Nat) :=
  if a < 0x80 then some (a, 1) else
  if 1 < n ∧ 0xC2 ≤ a ∧ a < 0xE0 ∧ (0x80 ≤ b ∧ b < 0xC0) then some ((a - 0xC0) * 64 + (b - 0x80), 2) else
  if 2 < n ∧ (0xE0 ≤ a ∧ a < 0xF0 ∧ (0x80 ≤ b ∧ b < 0xC0) ∧ (0x80 ≤ c ∧ c < 0xC0)) ∧ 0x800 ≤ ((a - 0xE0) * 64 + (b - 0x80)) * 64 + (c - 0x80) ∧ (((a - 0xE0) * 64 + (b - 0x80)) * 64 + (c - 0x80) ≤ 0x10FFFF ∧ (((a - 0xE0) * 64 + (b - 0x80)) * 64 + (c - 0x80) < 0xD800 ∨ 0xDFFF < ((a - 0xE0) * 64 + (b - 0x80)) * 64 + (c - 0x80))) then some (((a - 0xE0) * 64 + (b - 0x80)) * 64 + (c - 0x80), 3) else
  if 3 < n ∧ (0xF0 ≤ a ∧ a < 0xF8 ∧ (0x80 ≤ b ∧ b < 0xC0) ∧ (0x80 ≤ c ∧ c < 0xC0) ∧ (0x80 ≤ d ∧ d < 0xC0)) ∧ 0x10000 ≤ (((a - 0xF0) * 64 + (b - 0x80)) * 64 + (c - 0x80)) * 64 + (d - 0x80) ∧ (((a - 0xF0) * 64 + (b - 0x80)) * 64 + (c - 0x80)) * 64 + (d - 0x80) ≤ 0x10FFFF then some ((((a - 0xF0) * 64 + (b - 0x80)) * 64 + (c - 0x80)) * 64 + (d - 0x80), 4) else none
theorem cont_iff (b : UInt8) : (cont b = true) = (0x80 ≤ b.toNat ∧ b.toNat < 0xC0) := by unfold cont; rw [decide_eq_true_eq]
theorem isRn_iff (r : Nat) : (isRn r = true) = (r ≤ 0x10FFFF ∧ (r < 0xD800 ∨ 0xDFFF < r)) := by unfold isRn; rw [decide_eq_true_eq]
theorem decM_one (n a b c d : Nat) (h : a < 0x80) : decM n a b c d = some (a, 1) := by unfold decM; rw [if_pos h]
theorem decM_two (n a b c d : Nat) (h0 : ¬ a < 0x80) (h : 1 < n ∧ 0xC2 ≤ a ∧ a < 0xE0 ∧ (0x80 ≤ b ∧ b < 0xC0)) : decM n a b c d = some ((a - 0xC0) * 64 + (b - 0x80), 2) := by unfold decM; rw [if_neg h0, if_pos h]
theorem decM_low (n a b c d : Nat) (h0 : ¬ a < 0x80) (hn : n ≤ 1) : decM n a b c d = none := by unfold decM; rw [if_neg h0, if_neg (fun h => by have := h.1; omega), if_neg (fun h => by have := h.1; omega), if_neg (fun h => by have := h.1; omega)]
theorem decM_low2 (n a b c d : Nat) (h0 : ¬ a < 0x80) (h : ¬ (1 < n ∧ 0xC2 ≤ a ∧ a < 0xE0 ∧ (0x80 ≤ b ∧ b < 0xC0))) (hn : n ≤ 2) : decM n a b c d = none := by unfold decM; rw [if_neg h0, if_neg h, if_neg (fun h => by have := h.1; omega), if_neg (fun h => by have := h.1; omega)]
def P3 (n a b c : Nat) : Prop := 2 < n ∧ (0xE0 ≤ a ∧ a < 0xF0 ∧ (0x80 ≤ b ∧ b < 0xC0) ∧ (0x80 ≤ c ∧ c < 0xC0)) ∧ 0x800 ≤ ((a - 0xE0) * 64 + (b - 0x80)) * 64 + (c - 0x80) ∧ (((a - 0xE0) * 64 + (b - 0x80)) * 64 + (c - 0x80) ≤ 0x10FFFF ∧ (((a - 0xE0) * 64 + (b - 0x80)) * 64 + (c - 0x80) < 0xD800 ∨ 0xDFFF < ((a - 0xE0) * 64 + (b - 0x80)) * 64 + (c - 0x80)))
def P4 (n a b c d : Nat) : Prop := 3 < n ∧ (0xF0 ≤ a ∧ a < 0xF8 ∧ (0x80 ≤ b ∧ b < 0xC0) ∧ (0x80 ≤ c ∧ c < 0xC0) ∧ (0x80 ≤ d ∧ d < 0xC0)) ∧ 0x10000 ≤ (((a - 0xF0) * 64 + (b - 0x80)) * 64 + (c - 0x80)) * 64 + (d - 0x80) ∧ (((a - 0xF0) * 64 + (b - 0x80)) * 64 + (c - 0x80)) * 64 + (d - 0x80) ≤ 0x10FFFF
theorem decM_three (n a b c d : Nat) (h0 : ¬ a < 0x80) (h1 : ¬ (1 < n ∧ 0xC2 ≤ a ∧ a < 0xE0 ∧ (0x80 ≤ b ∧ b < 0xC0))) (h : P3 n a b c) : decM n a b c d = some (((a - 0xE0) * 64 + (b - 0x80)) * 64 + (c - 0x80), 3) := by unfold P3 at h; unfold decM; rw [if_neg h0, if_neg h1, if_pos h]
theorem decM_low3 (n a b c d : Nat) (h0 : ¬ a < 0x80) (h1 : ¬ (1 < n ∧ 0xC2 ≤ a ∧ a < 0xE0 ∧ (0x80 ≤ b ∧ b < 0xC0))) (h : ¬ P3 n a b c) (hn : n ≤ 3) : decM n a b c d = none := by unfold P3 at h; unfold decM; rw [if_neg h0, if_neg h1, if_neg h, if_neg (fun h => by have := h.1; omega)]
theorem decM_four (n a b c d : Nat) (h0 : ¬ a < 0x80) (h1 : ¬ (1 < n ∧ 0xC2 ≤ a ∧ a < 0xE0 ∧ (0x80 ≤ b ∧ b < 0xC0))) (h2 : ¬ P3 n a b c) (h : P4 n a b c d) : decM n a b c d = some ((((a - 0xF0) * 64 + (b - 0x80)) * 64 + (c - 0x80)) * 64 + (d - 0x80), 4) := by unfold P3 at h2; unfold P4 at h; unfold decM; rw [if_neg h0, if_neg h1, if_neg h2, if_pos h]
theorem decM_low4 (n a b c d : Nat) (h0 : ¬ a < 0x80) (h1 : ¬ (1 < n ∧ 0xC2 ≤ a ∧ a < 0xE0 ∧ (0x80 ≤ b ∧ b < 0xC0))) (h2 : ¬ P3 n a b c) (h : ¬ P4 n a b c d) : decM n a b c d = none := by unfold P3 at h2; unfold P4 at h; unfold decM; rw [if_neg h0, if_neg h1, if_neg h2, if_neg h]
theorem dec_M : ∀ (L : List UInt8), L ≠ [] → dec L = decM L.length (L.getD 0 0).toNat (L.getD 1 0).toNat (L.getD 2 0).toNat (L.getD 3 0).toNat
  | [], h => absurd rfl h
  | [a], _ => by
    show dec [a] = decM 1 a.toNat _ _ _
    by_cases h0 : a.toNat < 0x80
    · rw [decM_one _ _ _ _ _ h0]; unfold dec; dsimp only; rw [if_pos h0]
    · rw [decM_low _ _ _ _ _ h0 (Nat.le_refl _)]; unfold dec; dsimp only; rw [if_neg h0]
  | [a, b], _ => by
    show dec [a, b] = decM 2 a.toNat b.toNat _ _
    by_cases h0 : a.toNat < 0x80
    · rw [decM_one _ _ _ _ _ h0]; unfold dec; dsimp only; rw [if_pos h0]
    by_cases h1 : 0xC2 ≤ a.toNat ∧ a.toNat < 0xE0 ∧ cont b = true
    · have h1' := h1; rw [cont_iff] at h1'
      rw [decM_two _ _ _ _ _ h0 ⟨by omega, h1'⟩]; unfold dec; dsimp only; rw [if_neg h0, if_pos h1]; rfl
    · have h1' := h1; rw [cont_iff] at h1'
      rw [decM_low2 _ _ _ _ _ h0 (fun h => h1' h.2) (Nat.le_refl _)]; unfold dec; dsimp only; rw [if_neg h0, if_neg h1]
  | [a, b, c], _ => by
    show dec [a, b, c] = decM 3 a.toNat b.toNat c.toNat _
    by_cases h0 : a.toNat < 0x80
    · rw [decM_one _ _ _ _ _ h0]; unfold dec; dsimp only; rw [if_pos h0]
    by_cases h1 : 0xC2 ≤ a.toNat ∧ a.toNat < 0xE0 ∧ cont b = true
    · have h1' := h1; rw [cont_iff] at h1'
      rw [decM_two _ _ _ _ _ h0 ⟨by omega, h1'⟩]; unfold dec; dsimp only; rw [if_neg h0, if_pos h1]; rfl
    have h1' := h1; rw [cont_iff] at h1'
    by_cases h2 : (0xE0 ≤ a.toNat ∧ a.toNat < 0xF0 ∧ cont b = true ∧ cont c = true) ∧ 0x800 ≤ d3 a b c ∧ isRn (d3 a b c) = true
    · have h2' := h2; rw [cont_iff, cont_iff, isRn_iff] at h2'
      rw [decM_three _ _ _ _ _ h0 (fun h => h1' h.2) ⟨by omega, h2'⟩]; unfold dec; dsimp only; rw [if_neg h0, if_neg h1, if_pos h2]; rfl
    · have h2' := h2; rw [cont_iff, cont_iff, isRn_iff] at h2'
      rw [decM_low3 _ _ _ _ _ h0 (fun h => h1' h.2) (fun h => h2' h.2) (Nat.le_refl _)]; unfold dec; dsimp only; rw [if_neg h0, if_neg h1, if_neg h2]
  | a :: b :: c :: d :: R, _ => by
    show dec (a :: b :: c :: d :: R) = decM (R.length + 4) a.toNat b.toNat c.toNat d.toNat
    by_cases h0 : a.toNat < 0x80
    · rw [decM_one _ _ _ _ _ h0]; unfold dec; dsimp only; rw [if_pos h0]
    by_cases h1 : 0xC2 ≤ a.toNat ∧ a.toNat < 0xE0 ∧ cont b = true
    · have h1' := h1; rw [cont_iff] at h1'
      rw [decM_two _ _ _ _ _ h0 ⟨by omega, h1'⟩]; unfold dec; dsimp only; rw [if_neg h0, if_pos h1]; rfl
    have h1' := h1; rw [cont_iff] at h1'
    by_cases h2 : (0xE0 ≤ a.toNat ∧ a.toNat < 0xF0 ∧ cont b = true ∧ cont c = true) ∧ 0x800 ≤ d3 a b c ∧ isRn (d3 a b c) = true
    · have h2' := h2; rw [cont_iff, cont_iff, isRn_iff] at h2'
      rw [decM_three _ _ _ _ _ h0 (fun h => h1' h.2) ⟨by omega, h2'⟩]; unfold dec; dsimp only; rw [if_neg h0, if_neg h1, if_pos h2]; rfl
    have h2' := h2; rw [cont_iff, cont_iff, isRn_iff] at h2'
    by_cases h3 : (0xF0 ≤ a.toNat ∧ a.toNat < 0xF8 ∧ cont b = true ∧ cont c = true ∧ cont d = true) ∧ 0x10000 ≤ d4 a b c d ∧ d4 a b c d ≤ 0x10FFFF
    · have h3' := h3; rw [cont_iff, cont_iff, cont_iff] at h3'
      rw [decM_four _ _ _ _ _ h0 (fun h => h1' h.2) (fun h => h2' h.2) ⟨by omega, h3'⟩]; unfold dec; dsimp only; rw [if_neg h0, if_neg h1, if_neg h2, if_pos h3]; rfl
    · have h3' := h3; rw [cont_iff, cont_iff, cont_iff] at h3'
      rw [decM_low4 _ _ _ _ _ h0 (fun h => h1' h.2) (fun h => h2' h.2) (fun h => h3' h.2)]; unfold dec; dsimp only; rw [if_neg h0, if_neg h1, if_neg h2, if_neg h3]
set_option maxRecDepth 100000 in
theorem decM_N (n a b c d : Nat) (hn : 1 ≤ n) (ha : a < 256) (hb : b < 256) (hc : c < 256) (hd : d < 256) : Lib.decodeN n a b c d = (decM n a b c d).getD (65533, 1) := by
  unfold Lib.decodeN decM
  by_cases h0 : a < 128
  · rw [if_pos h0, if_pos h0]; rfl
  rw [if_neg h0, if_neg h0]
  by_cases h1 : a < 0xE0
  · by_cases h2 : 0xC0 ≤ a ∧ 1 < n ∧ (0x80 ≤ b ∧ b < 0xC0)
    · rw [if_pos (by omega)]
      by_cases h3 : 0xC2 ≤ a
      · rw [if_pos (by omega), if_pos (by omega)]
        show (_, 2) = (_, 2)
        congr 1; omega
      · rw [if_neg (by omega), if_neg (by omega), if_neg (by omega), if_neg (by omega)]; rfl
    · rw [if_neg (by omega), if_neg (by omega), if_neg (by omega), if_neg (by omega), if_neg (by omega), if_neg (by omega)]; rfl
  rw [if_neg (by omega : ¬ (a / 32 = 6 ∧ _)), if_neg (by omega : ¬ (1 < n ∧ _))]
  by_cases h2 : a < 0xF0
  · by_cases h3 : 2 < n ∧ (0x80 ≤ b ∧ b < 0xC0) ∧ (0x80 ≤ c ∧ c < 0xC0)
    · obtain ⟨x, rfl⟩ : ∃ x, a = 0xE0 + x := ⟨a - 0xE0, by omega⟩
      obtain ⟨y, rfl⟩ : ∃ y, b = 0x80 + y := ⟨b - 0x80, by omega⟩
      obtain ⟨z, rfl⟩ : ∃ z, c = 0x80 + z := ⟨c - 0x80, by omega⟩
      have e : (0xE0 + x) % 16 * 4096 + (0x80 + y) % 64 * 64 + (0x80 + z) % 64 = ((0xE0 + x - 0xE0) * 64 + (0x80 + y - 0x80)) * 64 + (0x80 + z - 0x80) := by omega
      rw [if_pos (by omega), e]
      generalize ((0xE0 + x - 0xE0) * 64 + (0x80 + y - 0x80)) * 64 + (0x80 + z - 0x80) = v
      by_cases h4 : 0x800 ≤ v ∧ (v < 0xD800 ∨ 0xDFFF < v ∧ v ≤ 0x10FFFF)
      · rw [if_pos (by omega), if_pos (by omega)]; rfl
      · rw [if_neg (by omega), if_neg (by omega), if_neg (by omega)]; rfl
    · rw [if_neg (by omega), if_neg (by omega), if_neg (by omega), if_neg (by omega)]; rfl
  rw [if_neg (by omega : ¬ (a / 16 = 14 ∧ _)), if_neg (by omega : ¬ (2 < n ∧ _))]
  by_cases h3 : a < 0xF8 ∧ 3 < n ∧ (0x80 ≤ b ∧ b < 0xC0) ∧ (0x80 ≤ c ∧ c < 0xC0) ∧ (0x80 ≤ d ∧ d < 0xC0)
  · obtain ⟨x, rfl⟩ : ∃ x, a = 0xF0 + x := ⟨a - 0xF0, by omega⟩
    obtain ⟨y, rfl⟩ : ∃ y, b = 0x80 + y := ⟨b - 0x80, by omega⟩
    obtain ⟨z, rfl⟩ : ∃ z, c = 0x80 + z := ⟨c - 0x80, by omega⟩
    obtain ⟨u, rfl⟩ : ∃ u, d = 0x80 + u := ⟨d - 0x80, by omega⟩
    have e : (0xF0 + x) % 8 * 262144 + (0x80 + y) % 64 * 4096 + (0x80 + z) % 64 * 64 + (0x80 + u) % 64 = (((0xF0 + x - 0xF0) * 64 + (0x80 + y - 0x80)) * 64 + (0x80 + z - 0x80)) * 64 + (0x80 + u - 0x80) := by omega
    rw [if_pos (by omega), e]
    generalize (((0xF0 + x - 0xF0) * 64 + (0x80 + y - 0x80)) * 64 + (0x80 + z - 0x80)) * 64 + (0x80 + u - 0x80) = v
    by_cases h4 : 0x10000 ≤ v ∧ v ≤ 0x10FFFF
    · rw [if_pos (by omega), if_pos (by omega)]; rfl
    · rw [if_neg (by omega), if_neg (by omega)]; rfl
  · rw [if_neg (by omega), if_neg (by omega)]; rfl
/-- The library's decoder on lists. -/
theorem decodeL_dec (L : List UInt8) (h : L ≠ []) : Lib.decodeL L = (dec L).getD (65533, 1) := by
  have hl : 1 ≤ L.length := by cases L with | nil => exact absurd rfl h | cons _ _ => simp
  rw [Lib.decodeL_N, decM_N _ _ _ _ _ hl (UInt8.toNat_lt _) (UInt8.toNat_lt _) (UInt8.toNat_lt _) (UInt8.toNat_lt _), ← dec_M L h]
theorem decodeGo_nil (s : ByteArray) (h : s.size = 0) : Lib.decodeGo s = (65533, 0) := by unfold Lib.decodeGo; rw [if_pos h]
theorem decodeGo_dec (s : ByteArray) (h : s.size ≠ 0) : Lib.decodeGo s = (dec s.data.toList).getD (65533, 1) := by
  have hl := data_len s
  have hne : s.data.toList ≠ [] := fun e => by rw [e] at hl; exact h hl.symm
  unfold Lib.decodeGo
  rw [if_neg h, ← decodeL_dec _ hne]
  have := Lib.decodeL_drop s 0
  rw [List.drop_zero] at this
  exact this.symm
/-- What the program makes of the decoder's answer is the plain rune. -/
theorem rune_go (s : ByteArray) : (((Lib.decodeGo s).1 = 65533 ∧ (Lib.decodeGo s).2 ≤ 1) → runeL s.data.toList = (-1, (Lib.decodeGo s).2)) ∧
    (¬ ((Lib.decodeGo s).1 = 65533 ∧ (Lib.decodeGo s).2 ≤ 1) → runeL s.data.toList = (((Lib.decodeGo s).1 : Int), (Lib.decodeGo s).2)) ∧ (Lib.decodeGo s).1 ≤ 1114111 ∧ (Lib.decodeGo s).2 ≤ 4 := by
  by_cases h : s.size = 0
  · have hl := data_len s
    have e : s.data.toList = [] := List.length_eq_zero_iff.1 (by omega)
    rw [decodeGo_nil s h, e]
    exact ⟨fun _ => rfl, fun h => absurd ⟨rfl, by decide⟩ h, by decide, by decide⟩
  · have hl := data_len s
    have hne : s.data.toList ≠ [] := fun e => by rw [e] at hl; exact h hl.symm
    rw [decodeGo_dec s h]
    unfold runeL
    cases e : dec s.data.toList with
    | none =>
      refine ⟨fun _ => ?_, fun h => absurd ⟨rfl, by decide⟩ h, by decide, by decide⟩
      show (-1, if s.data.toList = [] then 0 else 1) = (-1, 1)
      rw [if_neg hne]
    | some x =>
      obtain ⟨r, n⟩ := x
      obtain ⟨a1, a2, a3, a4⟩ := dec_some e
      have hp := dec_pos e
      have hr : r ≤ 0x10FFFF := by unfold isRn at a1; exact (of_decide_eq_true a1).1
      refine ⟨fun hc => ?_, fun _ => rfl, hr, hp.2⟩
      exfalso
      have h1 : r = 65533 := hc.1
      have h2 : n ≤ 1 := hc.2
      rw [h1] at a3
      have h3 : (byts 65533).length = 3 := by decide
      omega
/-- The library's Valid is the plain one. -/
theorem valid_go (L : List UInt8) : Lib.validD L = validL L := by
  suffices h : ∀ k (L : List UInt8), L.length ≤ k → Lib.validGoD k L = validL L from h _ L (Nat.le_refl _)
  intro k
  induction k with
  | zero => intro L h; rw [List.length_eq_zero_iff.1 (show L.length = 0 by omega)]; rfl
  | succ k ih =>
    intro L h
    unfold Lib.validGoD
    by_cases hL : L = []
    · rw [if_pos hL, hL]; rfl
    · rw [if_neg hL, valid_step hL, decodeL_dec L hL]
      have hp := rune_pos hL
      unfold runeL at hp ⊢
      cases e : dec L with
      | none =>
        rw [if_pos ⟨rfl, rfl⟩]
        rfl
      | some x =>
        obtain ⟨r, n⟩ := x
        obtain ⟨a1, a2, a3, a4⟩ := dec_some e
        rw [e] at hp
        have h3 : (byts 65533).length = 3 := by decide
        rw [if_neg (fun hc => by
          have h1 : r = 65533 := hc.1
          have h2 : n = 1 := hc.2
          rw [h1] at a3
          omega)]
        have hn : 1 ≤ n := hp.1
        show Lib.validGoD k (L.drop n) = (decide (0 ≤ (r : Int)) && validL (L.drop n))
        rw [decide_eq_true (by omega), Bool.true_and]
        exact ih _ (by rw [List.length_drop]; omega)
end Go.Proofs.YtbblmpibekkbfaaDoor
