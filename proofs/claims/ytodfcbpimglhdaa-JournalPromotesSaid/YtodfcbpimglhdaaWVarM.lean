/- Numbers and texts as bytes, in plain numbers and lists: what is written, what is read; nothing of the program is walked here. -/
import Derived.Test.YtodfcbpimglhdaaWMath
namespace Go.Proofs.Ytodfcbpimglhdaa.Fr

/-- A number as bytes: seven bits each, the lowest first. -/
def varL (v : Nat) : List UInt8 := if v < 128 then [UInt8.ofNat v] else UInt8.ofNat (v % 128 + 128) :: varL (v / 128)
termination_by v
decreasing_by omega
/-- The number that bytes say. -/
def valL : List UInt8 → Nat
  | [] => 0
  | b :: t => b.toNat % 128 + 128 * valL t
/-- How many bytes the number has that a list begins with, i of them gone by; 0, if there is none. -/
def vsz : Nat → List UInt8 → Nat
  | _, [] => 0
  | i, b :: t => if 10 ≤ i then 0 else if 128 ≤ b.toNat then vsz (i + 1) t else if (0 < i ∧ b.toNat = 0) ∨ (i = 9 ∧ 1 < b.toNat) then 0 else i + 1
/-- What is read of bytes: the number and the rest. -/
def rdV (l : List UInt8) : Option (Nat × List UInt8) := if vsz 0 l = 0 then none else some (valL (l.take (vsz 0 l)), l.drop (vsz 0 l))
/-- A text as bytes, and what is read. -/
def textL (t : List UInt8) : List UInt8 := varL t.length ++ t
def rdT (l : List UInt8) : Option (List UInt8 × List UInt8) :=
  match rdV l with
  | none => none
  | some (n, r) => if n ≤ r.length then some (r.take n, r.drop n) else none

theorem varL_lo (v : Nat) (h : v < 128) : varL v = [UInt8.ofNat v] := by rw [varL, if_pos h]
theorem varL_hi (v : Nat) (h : 128 ≤ v) : varL v = UInt8.ofNat (v % 128 + 128) :: varL (v / 128) := by rw [varL, if_neg (by omega)]
theorem toNat_of (n : Nat) (h : n < 256) : (UInt8.ofNat n).toNat = n := by rw [UInt8.toNat_ofNat']; exact Nat.mod_eq_of_lt h
theorem varL_len (v : Nat) : 1 ≤ (varL v).length := by
  by_cases h : v < 128
  · rw [varL_lo v h]; simp
  · rw [varL_hi v (by omega)]; simp
theorem valL_varL (v : Nat) : valL (varL v) = v := by
  induction v using Nat.strongRecOn with
  | ind v ih =>
    by_cases h : v < 128
    · rw [varL_lo v h]; simp only [valL]; rw [toNat_of v (by omega)]; omega
    · rw [varL_hi v (by omega)]; simp only [valL]; rw [ih (v / 128) (by omega), toNat_of _ (by omega)]; omega
theorem pow_part (i : Nat) (h : i ≤ 8) : 2 ^ (64 - 7 * i) = 2 ^ (64 - 7 * (i + 1)) * 128 := by
  have e : 64 - 7 * i = 64 - 7 * (i + 1) + 7 := by omega
  rw [e, Nat.pow_add]
theorem pow_small (i : Nat) (h : 9 ≤ i) (h2 : i ≤ 9) : 2 ^ (64 - 7 * i) = 2 := by
  have e : i = 9 := by omega
  subst e; rfl
/-- What was written is told with its length. -/
theorem vsz_varL (v : Nat) (s : List UInt8) (i : Nat) (hi : i ≤ 9) (hv : v < 2 ^ (64 - 7 * i)) (h0 : 0 < i → 0 < v) : vsz i (varL v ++ s) = i + (varL v).length := by
  induction v using Nat.strongRecOn generalizing i with
  | ind v ih =>
    by_cases h : v < 128
    · rw [varL_lo v h]
      simp only [List.cons_append, List.nil_append, vsz]
      rw [toNat_of v (by omega), if_neg (by omega), if_neg (by omega), if_neg]
      · rfl
      · intro hh
        rcases hh with ⟨h1, h2⟩ | ⟨h1, h2⟩
        · have := h0 h1; omega
        · have := pow_small i (by omega) (by omega); omega
    · have hi8 : i ≤ 8 := by
        apply Decidable.byContradiction
        intro hh
        have := pow_small i (by omega) (by omega); omega
      have hp := pow_part i hi8
      have hq : v / 128 < 2 ^ (64 - 7 * (i + 1)) := by rw [hp] at hv; omega
      rw [varL_hi v (by omega)]
      simp only [List.cons_append, vsz, List.length_cons]
      rw [toNat_of _ (by omega), if_neg (by omega), if_pos (by omega), ih (v / 128) (by omega) (i + 1) (by omega) hq (fun _ => by omega)]
      omega
/-- What is told is a number as it is written. -/
theorem vsz_some (l : List UInt8) (i : Nat) (hi : i ≤ 10) (h : vsz i l ≠ 0) :
    ∃ m, vsz i l = i + m ∧ 1 ≤ m ∧ m ≤ l.length ∧ i + m ≤ 10 ∧ varL (valL (l.take m)) = l.take m ∧ valL (l.take m) < 2 ^ (64 - 7 * i) ∧ (0 < i → 0 < valL (l.take m)) := by
  induction l generalizing i with
  | nil => exact absurd rfl h
  | cons b t ih =>
    simp only [vsz] at h ⊢
    by_cases h10 : 10 ≤ i
    · rw [if_pos h10] at h; exact absurd rfl h
    · rw [if_neg h10] at h ⊢
      by_cases hb : 128 ≤ b.toNat
      · rw [if_pos hb] at h ⊢
        obtain ⟨m, e, h1, h2, h3, h4, h5, h6⟩ := ih (i + 1) (by omega) h
        have h7 := h6 (by omega)
        have hlt := byte_lt b
        have hp := pow_part i (by omega)
        refine ⟨m + 1, by omega, by omega, by simp; omega, by omega, ?_, ?_, ?_⟩
        · rw [List.take_succ_cons]
          simp only [valL]
          rw [varL_hi _ (by omega)]
          have e1 : (b.toNat % 128 + 128 * valL (t.take m)) % 128 + 128 = b.toNat := by omega
          have e2 : (b.toNat % 128 + 128 * valL (t.take m)) / 128 = valL (t.take m) := by omega
          rw [e1, e2, h4, UInt8.ofNat_toNat]
        · rw [List.take_succ_cons]; simp only [valL]; rw [hp]; omega
        · intro _; rw [List.take_succ_cons]; simp only [valL]; omega
      · rw [if_neg hb] at h ⊢
        by_cases hc : (0 < i ∧ b.toNat = 0) ∨ (i = 9 ∧ 1 < b.toNat)
        · rw [if_pos hc] at h; exact absurd rfl h
        · rw [if_neg hc]
          refine ⟨1, rfl, Nat.le_refl _, by simp, by omega, ?_, ?_, ?_⟩
          · rw [List.take_succ_cons, List.take_zero]
            simp only [valL]
            rw [varL_lo _ (by omega), show b.toNat % 128 + 128 * 0 = b.toNat by omega, UInt8.ofNat_toNat]
          · rw [List.take_succ_cons, List.take_zero]
            simp only [valL]
            by_cases h9 : i = 9
            · have := pow_small i (by omega) (by omega); omega
            · have hp : 2 ^ 7 ≤ 2 ^ (64 - 7 * i) := Nat.pow_le_pow_right (by omega) (by omega)
              omega
          · intro hi0
            rw [List.take_succ_cons, List.take_zero]
            simp only [valL]
            omega
theorem vsz_step (l : List UInt8) (k : Nat) (h : k < l.length) (hk : k < 10) (hb : 128 ≤ (l[k]).toNat) : vsz k (l.drop k) = vsz (k + 1) (l.drop (k + 1)) := by
  rw [List.drop_eq_getElem_cons h]
  simp only [vsz]
  rw [if_neg (by omega), if_pos hb]
theorem vsz_last (l : List UInt8) (k : Nat) (h : k < l.length) (hk : k < 10) (hb : (l[k]).toNat < 128) : vsz k (l.drop k) = if (0 < k ∧ (l[k]).toNat = 0) ∨ (k = 9 ∧ 1 < (l[k]).toNat) then 0 else k + 1 := by
  rw [List.drop_eq_getElem_cons h]
  simp only [vsz]
  rw [if_neg (by omega), if_neg (by omega)]
theorem vsz_end (l : List UInt8) (k : Nat) (h : l.length ≤ k ∨ 10 ≤ k) : vsz k (l.drop k) = 0 := by
  by_cases hl : l.length ≤ k
  · rw [List.drop_of_length_le hl]; rfl
  · rw [List.drop_eq_getElem_cons (by omega)]
    simp only [vsz]
    rw [if_pos (by omega)]

theorem rdV_varL (v : Nat) (s : List UInt8) (h : v < 18446744073709551616) : rdV (varL v ++ s) = some (v, s) := by
  have e := vsz_varL v s 0 (by omega) h (fun hh => by omega)
  have hl := varL_len v
  unfold rdV
  rw [e, Nat.zero_add, if_neg (by omega), List.take_left, List.drop_left, valL_varL]
theorem rdV_some {l : List UInt8} {v : Nat} {r : List UInt8} (h : rdV l = some (v, r)) : varL v ++ r = l ∧ v < 18446744073709551616 ∧ vsz 0 l ≠ 0 ∧ vsz 0 l ≤ l.length ∧ vsz 0 l ≤ 10 ∧ v = valL (l.take (vsz 0 l)) ∧ r = l.drop (vsz 0 l) := by
  unfold rdV at h
  by_cases hz : vsz 0 l = 0
  · rw [if_pos hz] at h; cases h
  · rw [if_neg hz] at h
    obtain ⟨m, e, h1, h2, h3, h4, h5, _⟩ := vsz_some l 0 (by omega) hz
    rw [e, Nat.zero_add] at h ⊢
    cases h
    exact ⟨by rw [h4, List.take_append_drop], h5, by omega, h2, by omega, rfl, rfl⟩
theorem rdV_none {l : List UInt8} (h : rdV l = none) : vsz 0 l = 0 := by
  unfold rdV at h
  by_cases hz : vsz 0 l = 0
  · exact hz
  · rw [if_neg hz] at h; cases h
/-- The reader that writes anew and compares reads the same. -/
theorem rd_again (l : List UInt8) (k : Nat) (hz : vsz 0 l = 0) : varL (valL (l.take (k + 1)) % 18446744073709551616) ≠ l.take (k + 1) := by
  intro h
  have e := rdV_varL (valL (l.take (k + 1)) % 18446744073709551616) (l.drop (k + 1)) (Nat.mod_lt _ (by omega))
  rw [h, List.take_append_drop] at e
  exact (rdV_some e).2.2.1 hz
theorem rd_again' (l : List UInt8) (hz : vsz 0 l ≠ 0) : varL (valL (l.take (vsz 0 l)) % 18446744073709551616) = l.take (vsz 0 l) ∧ valL (l.take (vsz 0 l)) % 18446744073709551616 = valL (l.take (vsz 0 l)) := by
  obtain ⟨m, e, h1, h2, h3, h4, h5, _⟩ := vsz_some l 0 (by omega) hz
  rw [e, Nat.zero_add]
  have e2 : valL (l.take m) % 18446744073709551616 = valL (l.take m) := Nat.mod_eq_of_lt h5
  exact ⟨by rw [e2, h4], e2⟩

theorem rdT_textL (t s : List UInt8) (h : t.length < 18446744073709551616) : rdT (textL t ++ s) = some (t, s) := by
  unfold rdT textL
  rw [List.append_assoc, rdV_varL _ _ h]
  simp
theorem rdT_some {l t r : List UInt8} (h : rdT l = some (t, r)) : textL t ++ r = l := by
  unfold rdT at h
  cases hv : rdV l with
  | none => rw [hv] at h; cases h
  | some p =>
    obtain ⟨n, q⟩ := p
    rw [hv] at h
    simp only at h
    by_cases hn : n ≤ q.length
    · rw [if_pos hn] at h
      cases h
      have e := (rdV_some hv).1
      unfold textL
      rw [List.length_take, Nat.min_eq_left hn, List.append_assoc, List.take_append_drop, e]
    · rw [if_neg hn] at h; cases h

theorem valL_snoc (l : List UInt8) (b : UInt8) : valL (l ++ [b]) = valL l + (b.toNat % 128) * 128 ^ l.length := by
  induction l with
  | nil => simp [valL]
  | cons c l ih =>
    simp only [List.cons_append, valL, ih, List.length_cons, Nat.pow_succ]
    rw [Nat.mul_add, ← Nat.mul_assoc, Nat.mul_comm 128 (b.toNat % 128), Nat.mul_assoc, Nat.mul_comm 128 (128 ^ l.length)]
    omega
theorem valL_lt (l : List UInt8) : valL l < 128 ^ l.length := by
  induction l with
  | nil => simp [valL]
  | cons c l ih => simp only [valL, List.length_cons, Nat.pow_succ]; omega

/-- Four bytes of a number. -/
def fixL (v : Nat) : List UInt8 := [UInt8.ofNat v, UInt8.ofNat (v / 256), UInt8.ofNat (v / 65536), UInt8.ofNat (v / 16777216)]
def unfix (a b c d : UInt8) : Nat := a.toNat + 256 * b.toNat + 65536 * c.toNat + 16777216 * d.toNat
theorem unfix_fixL (v : Nat) (h : v < 4294967296) : unfix (UInt8.ofNat v) (UInt8.ofNat (v / 256)) (UInt8.ofNat (v / 65536)) (UInt8.ofNat (v / 16777216)) = v := by
  unfold unfix
  simp only [UInt8.toNat_ofNat']
  omega

end Go.Proofs.Ytodfcbpimglhdaa.Fr
