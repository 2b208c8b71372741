/- The sum of bytes, and numbers and texts as bytes, in plain numbers and lists: nothing of the program is walked here. -/
import Derived.WalkKit

namespace Go.Proofs.Ytfmnbabkdpiboaa.Fr

/-- One bit of the sum. -/
def cStep (c : Nat) : Nat := if c % 2 = 1 then c / 2 ^^^ 3988292384 else c / 2
def cIter : Nat → Nat → Nat
  | 0, c => c
  | n + 1, c => cIter n (cStep c)
/-- The sum with one byte more, and with a list of bytes more. -/
def addB (c : Nat) (b : UInt8) : Nat := cIter 8 (c ^^^ b.toNat)
def crcRaw (c : Nat) (l : List UInt8) : Nat := l.foldl addB c
def crcL (l : List UInt8) : Nat := crcRaw 4294967295 l ^^^ 4294967295

theorem cStep_xor (a b : Nat) : cStep (a ^^^ b) = cStep a ^^^ cStep b := by
  have hd : (a ^^^ b) / 2 = a / 2 ^^^ b / 2 := Nat.xor_div_two
  have hm : (a ^^^ b) % 2 = (a % 2) ^^^ (b % 2) := Nat.xor_mod_two_pow (n := 1)
  unfold cStep
  rw [hd, hm]
  rcases Nat.mod_two_eq_zero_or_one a with ha | ha <;> rcases Nat.mod_two_eq_zero_or_one b with hb | hb <;> rw [ha, hb] <;> simp
  · rw [Nat.xor_assoc]
  · rw [Nat.xor_assoc, Nat.xor_comm (b / 2), ← Nat.xor_assoc]
  · apply Nat.eq_of_testBit_eq
    intro i
    simp only [Nat.testBit_xor]
    cases (a / 2).testBit i <;> cases (b / 2).testBit i <;> cases Nat.testBit 3988292384 i <;> rfl
theorem cIter_xor (n a b : Nat) : cIter n (a ^^^ b) = cIter n a ^^^ cIter n b := by
  induction n generalizing a b with
  | zero => rfl
  | succ n ih => unfold cIter; rw [cStep_xor, ih]
theorem cIter_add (m n c : Nat) : cIter (m + n) c = cIter n (cIter m c) := by
  induction m generalizing c with
  | zero => rw [Nat.zero_add]; rfl
  | succ m ih =>
    have e : m + 1 + n = m + n + 1 := by omega
    rw [e]; show cIter (m + n) (cStep c) = cIter n (cIter m (cStep c)); exact ih _
theorem cIter_succ' (n c : Nat) : cIter (n + 1) c = cStep (cIter n c) := cIter_add n 1 c
theorem cStep_lt (c : Nat) (h : c < 4294967296) : cStep c < 4294967296 := by
  unfold cStep
  split
  · have : c / 2 ^^^ 3988292384 < 2 ^ 32 := Nat.xor_lt_two_pow (by omega) (by omega)
    omega
  · omega
theorem cIter_lt (n c : Nat) (h : c < 4294967296) : cIter n c < 4294967296 := by
  induction n generalizing c with
  | zero => exact h
  | succ n ih => exact ih _ (cStep_lt c h)
theorem xor_lt32 (a b : Nat) (ha : a < 4294967296) (hb : b < 4294967296) : a ^^^ b < 4294967296 := by
  have : a ^^^ b < 2 ^ 32 := Nat.xor_lt_two_pow (by omega) (by omega)
  omega
theorem byte_lt (b : UInt8) : b.toNat < 256 := b.toNat_lt
theorem addB_lt (c : Nat) (b : UInt8) (h : c < 4294967296) : addB c b < 4294967296 := cIter_lt _ _ (xor_lt32 _ _ h (by have := byte_lt b; omega))
theorem crcRaw_lt (l : List UInt8) (c : Nat) (h : c < 4294967296) : crcRaw c l < 4294967296 := by
  induction l generalizing c with
  | nil => exact h
  | cons b l ih => exact ih _ (addB_lt c b h)
theorem crcL_lt (l : List UInt8) : crcL l < 4294967296 := xor_lt32 _ _ (crcRaw_lt l _ (by omega)) (by omega)
theorem crcRaw_append (c : Nat) (l m : List UInt8) : crcRaw c (l ++ m) = crcRaw (crcRaw c l) m := List.foldl_append ..
theorem crcRaw_snoc (c : Nat) (l : List UInt8) (b : UInt8) : crcRaw c (l ++ [b]) = addB (crcRaw c l) b := crcRaw_append c l [b]

theorem cStep_even (a : Nat) : cStep (2 * a) = a := by unfold cStep; rw [if_neg (by omega)]; omega
theorem cIter_shift (k a : Nat) : cIter k (a * 2 ^ k) = a := by
  induction k generalizing a with
  | zero => simp [cIter]
  | succ k ih =>
    have e : a * 2 ^ (k + 1) = 2 * (a * 2 ^ k) := by rw [Nat.pow_succ, ← Nat.mul_assoc, Nat.mul_comm 2]
    unfold cIter; rw [e, cStep_even, ih]
theorem cStep_zero (c : Nat) (h : c < 4294967296) (hz : cStep c = 0) : c = 0 := by
  unfold cStep at hz
  split at hz
  · have h2 := congrArg (· ^^^ 3988292384) hz
    simp only [Nat.xor_assoc, Nat.xor_self, Nat.xor_zero, Nat.zero_xor] at h2
    omega
  · omega
theorem cIter_zero (n c : Nat) (h : c < 4294967296) (hz : cIter n c = 0) : c = 0 := by
  induction n generalizing c with
  | zero => exact hz
  | succ n ih => exact cStep_zero c h (ih _ (cStep_lt c h) hz)

/-- Bytes as one number, the first the lowest. -/
def leN : List UInt8 → Nat
  | [] => 0
  | b :: l => b.toNat + 256 * leN l
theorem low_xor (b x : Nat) (hb : b < 256) : b + 256 * x = b ^^^ 256 * x := by
  have e : b + 256 * x = 2 ^ 8 * x + b := by omega
  have e2 : 256 * x = 2 ^ 8 * x := by omega
  rw [e, e2]
  apply Nat.eq_of_testBit_eq
  intro i
  rw [Nat.testBit_two_pow_mul_add _ (by omega), Nat.testBit_xor, Nat.testBit_two_pow_mul]
  by_cases h : i < 8
  · rw [if_pos h, decide_eq_false (by omega)]; simp
  · rw [if_neg h, decide_eq_true (by omega), Nat.testBit_lt_two_pow (x := b) (i := i)]
    · simp
    · exact Nat.lt_of_lt_of_le (show b < 2 ^ 8 by omega) (Nat.pow_le_pow_right (by omega) (by omega))
theorem mul_xor (k x y : Nat) : (x ^^^ y) * 2 ^ k = x * 2 ^ k ^^^ y * 2 ^ k := by
  rw [← Nat.shiftLeft_eq, ← Nat.shiftLeft_eq, ← Nat.shiftLeft_eq, Nat.shiftLeft_xor_distrib]
theorem crcRaw_le (l : List UInt8) (c : Nat) : crcRaw c l = cIter (8 * l.length) (c ^^^ leN l) := by
  induction l generalizing c with
  | nil => simp [crcRaw, leN, cIter]
  | cons b l ih =>
    have e : 8 * (b :: l).length = 8 + 8 * l.length := by simp; omega
    have e2 : c ^^^ leN (b :: l) = (c ^^^ b.toNat) ^^^ leN l * 2 ^ 8 := by
      show c ^^^ (b.toNat + 256 * leN l) = _
      rw [low_xor _ _ (byte_lt b), Nat.xor_assoc, Nat.mul_comm 256]
    rw [e, cIter_add, e2, cIter_xor 8, cIter_shift]
    exact ih (addB c b)
theorem leN_inj (l m : List UInt8) (hl : l.length = m.length) (h : leN l = leN m) : l = m := by
  induction l generalizing m with
  | nil => cases m with
    | nil => rfl
    | cons => simp at hl
  | cons b l ih =>
    cases m with
    | nil => simp at hl
    | cons c m =>
      simp only [leN] at h
      have h1 := byte_lt b
      have h2 := byte_lt c
      have hb : b.toNat = c.toNat := by omega
      rw [UInt8.toNat_inj.1 hb, ih m (by simpa using hl) (by omega)]
theorem leN_set (l : List UInt8) (i : Nat) (h : i < l.length) (m : UInt8) : leN (l.set i (l[i] ^^^ m)) = leN l ^^^ m.toNat * 2 ^ (8 * i) := by
  induction l generalizing i with
  | nil => simp at h
  | cons b l ih =>
    cases i with
    | zero =>
      show (b ^^^ m).toNat + 256 * leN l = (b.toNat + 256 * leN l) ^^^ _
      have h1 := byte_lt (b ^^^ m)
      rw [low_xor _ _ (byte_lt b), low_xor _ _ h1, UInt8.toNat_xor]
      simp only [Nat.mul_zero, Nat.pow_zero, Nat.mul_one]
      rw [Nat.xor_assoc, Nat.xor_assoc, Nat.xor_comm m.toNat]
    | succ i =>
      have hi : i < l.length := by simpa using h
      show b.toNat + 256 * leN (l.set i (l[i] ^^^ m)) = (b.toNat + 256 * leN l) ^^^ _
      have e : m.toNat * 2 ^ (8 * (i + 1)) = m.toNat * 2 ^ (8 * i) * 2 ^ 8 := by rw [Nat.mul_assoc, ← Nat.pow_add]; congr 2
      rw [ih i hi, e, low_xor _ _ (byte_lt b), low_xor _ _ (byte_lt b), Nat.mul_comm 256, Nat.mul_comm 256, show (256 : Nat) = 2 ^ 8 from rfl, mul_xor, Nat.xor_assoc]

/-- Two lists of one length that differ by up to 32 bits beside one another, and have one sum, are one. -/
theorem crc_burst (l m : List UInt8) (hl : m.length = l.length) (k B : Nat) (hk : k ≤ 8 * l.length) (hB : B < 4294967296) (he : leN m = leN l ^^^ B * 2 ^ k) (hc : crcL m = crcL l) : m = l := by
  have h1 : crcRaw 4294967295 m = crcRaw 4294967295 l := by
    have := congrArg (· ^^^ 4294967295) hc
    simpa [crcL, Nat.xor_assoc] using this
  rw [crcRaw_le, crcRaw_le, hl, he, ← Nat.xor_assoc, cIter_xor] at h1
  have h2 : cIter (8 * l.length) (B * 2 ^ k) = 0 := by
    have := congrArg (cIter (8 * l.length) (4294967295 ^^^ leN l) ^^^ ·) h1
    simpa [← Nat.xor_assoc] using this
  have e : 8 * l.length = k + (8 * l.length - k) := by omega
  rw [e, cIter_add, cIter_shift] at h2
  have hz := cIter_zero _ _ hB h2
  subst hz
  apply leN_inj m l hl
  rw [he]; simp

/-- Three lists of one length laid over one another. -/
theorem leN_xor (l m : List UInt8) (hl : l.length = m.length) : leN (List.zipWith (· ^^^ ·) l m) = leN l ^^^ leN m := by
  induction l generalizing m with
  | nil => cases m with
    | nil => rfl
    | cons => simp at hl
  | cons b l ih =>
    cases m with
    | nil => simp at hl
    | cons c m =>
      show (b ^^^ c).toNat + 256 * leN (List.zipWith (· ^^^ ·) l m) = (b.toNat + 256 * leN l) ^^^ (c.toNat + 256 * leN m)
      rw [ih m (by simpa using hl), low_xor _ _ (byte_lt _), low_xor _ _ (byte_lt b), low_xor _ _ (byte_lt c), UInt8.toNat_xor, Nat.mul_comm 256, show (256 : Nat) = 2 ^ 8 from rfl, mul_xor, Nat.mul_comm (2 ^ 8) (leN l), Nat.mul_comm (2 ^ 8) (leN m)]
      ac_rfl
theorem crc_linear (a b c : List UInt8) (hb : a.length = b.length) (hc : a.length = c.length) :
    crcL (List.zipWith (· ^^^ ·) (List.zipWith (· ^^^ ·) a b) c) = crcL a ^^^ crcL b ^^^ crcL c := by
  have h1 : (List.zipWith (· ^^^ ·) a b).length = a.length := by simp; omega
  have h2 : (List.zipWith (· ^^^ ·) (List.zipWith (· ^^^ ·) a b) c).length = a.length := by simp; omega
  unfold crcL
  rw [crcRaw_le, crcRaw_le, crcRaw_le, crcRaw_le, h2, leN_xor _ _ (by omega), leN_xor _ _ hb, ← hb, ← hc]
  simp only [cIter_xor]
  generalize cIter (8 * a.length) 4294967295 = F
  generalize cIter (8 * a.length) (leN a) = A
  generalize cIter (8 * a.length) (leN b) = B
  generalize cIter (8 * a.length) (leN c) = C
  generalize 4294967295 = E
  apply Nat.eq_of_testBit_eq
  intro i
  simp only [Nat.testBit_xor]
  cases F.testBit i <;> cases A.testBit i <;> cases B.testBit i <;> cases C.testBit i <;> cases E.testBit i <;> rfl

/-- What WireFlips turns: after i of the 32 bits. -/
theorem flip_step (n k i bits : Nat) (hk : k < 8 * n) :
    bits % 2 ^ min (i + 1) (8 * n - k) * 2 ^ k = if bits / 2 ^ i % 2 = 1 ∧ k + i < 8 * n then bits % 2 ^ min i (8 * n - k) * 2 ^ k ^^^ 2 ^ (k + i) else bits % 2 ^ min i (8 * n - k) * 2 ^ k := by
  by_cases h : k + i < 8 * n
  · have e1 : min (i + 1) (8 * n - k) = i + 1 := by omega
    have e2 : min i (8 * n - k) = i := by omega
    have hl : bits % 2 ^ i < 2 ^ i := Nat.mod_lt _ (Nat.two_pow_pos i)
    have e3 : bits % 2 ^ (i + 1) = bits % 2 ^ i + 2 ^ i * (bits / 2 ^ i % 2) := Nat.mod_pow_succ
    rw [e1, e2, e3]
    rcases Nat.mod_two_eq_zero_or_one (bits / 2 ^ i) with hb | hb
    · rw [hb, if_neg (by omega)]; simp
    · rw [hb, if_pos ⟨rfl, h⟩, Nat.mul_one, Nat.pow_add, Nat.mul_comm (2 ^ k) (2 ^ i), ← mul_xor]
      congr 1
      apply Nat.eq_of_testBit_eq
      intro j
      have e4 : bits % 2 ^ i + 2 ^ i = 2 ^ i * 1 + bits % 2 ^ i := by omega
      rw [e4, Nat.testBit_two_pow_mul_add _ hl, Nat.testBit_xor, Nat.testBit_two_pow]
      by_cases hj : j < i
      · rw [if_pos hj, decide_eq_false (by omega)]; simp
      · rw [if_neg hj, Nat.testBit_lt_two_pow (x := bits % 2 ^ i) (i := j) (Nat.lt_of_lt_of_le hl (Nat.pow_le_pow_right (by omega) (by omega)))]
        by_cases hij : i = j
        · subst hij; simp
        · rw [decide_eq_false hij]
          have : Nat.testBit 1 (j - i) = false := by
            rw [show (1 : Nat) = 2 ^ 0 from rfl, Nat.testBit_two_pow]; exact decide_eq_false (by omega)
          rw [this]; rfl
  · have e1 : min (i + 1) (8 * n - k) = 8 * n - k := by omega
    have e2 : min i (8 * n - k) = 8 * n - k := by omega
    rw [e1, e2, if_neg (fun hh => h hh.2)]

end Go.Proofs.Ytfmnbabkdpiboaa.Fr
/- Numbers and texts as bytes, in plain numbers and lists: what is written, what is read; nothing of the program is walked here. -/
namespace Go.Proofs.Ytfmnbabkdpiboaa.Fr

/-- A number as bytes: seven bits each, the lowest first. -/
def varL (v : Nat) : List UInt8 := if v < 128 then [UInt8.ofNat v] else UInt8.ofNat (v % 128 + 128) :: varL (v / 128)
termination_by v
decreasing_by omega
/-- The number that bytes say. -/
def valL : List UInt8 → Nat
  | [] => 0
  | b :: t => b.toNat % 128 + 128 * valL t
/-- How many bytes the number has that a list begins with, i of them gone by; 0, if there is none. -/
def vsz : Nat → List UInt8 → Nat
  | _, [] => 0
  | i, b :: t => if 10 ≤ i then 0 else if 128 ≤ b.toNat then vsz (i + 1) t else if (0 < i ∧ b.toNat = 0) ∨ (i = 9 ∧ 1 < b.toNat) then 0 else i + 1
/-- What is read of bytes: the number and the rest. -/
def rdV (l : List UInt8) : Option (Nat × List UInt8) := if vsz 0 l = 0 then none else some (valL (l.take (vsz 0 l)), l.drop (vsz 0 l))
/-- A text as bytes, and what is read. -/
def textL (t : List UInt8) : List UInt8 := varL t.length ++ t
def rdT (l : List UInt8) : Option (List UInt8 × List UInt8) :=
  match rdV l with
  | none => none
  | some (n, r) => if n ≤ r.length then some (r.take n, r.drop n) else none

theorem varL_lo (v : Nat) (h : v < 128) : varL v = [UInt8.ofNat v] := by rw [varL, if_pos h]
theorem varL_hi (v : Nat) (h : 128 ≤ v) : varL v = UInt8.ofNat (v % 128 + 128) :: varL (v / 128) := by rw [varL, if_neg (by omega)]
theorem toNat_of (n : Nat) (h : n < 256) : (UInt8.ofNat n).toNat = n := by rw [UInt8.toNat_ofNat']; exact Nat.mod_eq_of_lt h
theorem varL_len (v : Nat) : 1 ≤ (varL v).length := by
  by_cases h : v < 128
  · rw [varL_lo v h]; simp
  · rw [varL_hi v (by omega)]; simp
theorem valL_varL (v : Nat) : valL (varL v) = v := by
  induction v using Nat.strongRecOn with
  | ind v ih =>
    by_cases h : v < 128
    · rw [varL_lo v h]; simp only [valL]; rw [toNat_of v (by omega)]; omega
    · rw [varL_hi v (by omega)]; simp only [valL]; rw [ih (v / 128) (by omega), toNat_of _ (by omega)]; omega
theorem pow_part (i : Nat) (h : i ≤ 8) : 2 ^ (64 - 7 * i) = 2 ^ (64 - 7 * (i + 1)) * 128 := by
  have e : 64 - 7 * i = 64 - 7 * (i + 1) + 7 := by omega
  rw [e, Nat.pow_add]
theorem pow_small (i : Nat) (h : 9 ≤ i) (h2 : i ≤ 9) : 2 ^ (64 - 7 * i) = 2 := by
  have e : i = 9 := by omega
  subst e; rfl
/-- What was written is told with its length. -/
theorem vsz_varL (v : Nat) (s : List UInt8) (i : Nat) (hi : i ≤ 9) (hv : v < 2 ^ (64 - 7 * i)) (h0 : 0 < i → 0 < v) : vsz i (varL v ++ s) = i + (varL v).length := by
  induction v using Nat.strongRecOn generalizing i with
  | ind v ih =>
    by_cases h : v < 128
    · rw [varL_lo v h]
      simp only [List.cons_append, List.nil_append, vsz]
      rw [toNat_of v (by omega), if_neg (by omega), if_neg (by omega), if_neg]
      · rfl
      · intro hh
        rcases hh with ⟨h1, h2⟩ | ⟨h1, h2⟩
        · have := h0 h1; omega
        · have := pow_small i (by omega) (by omega); omega
    · have hi8 : i ≤ 8 := by
        apply Decidable.byContradiction
        intro hh
        have := pow_small i (by omega) (by omega); omega
      have hp := pow_part i hi8
      have hq : v / 128 < 2 ^ (64 - 7 * (i + 1)) := by rw [hp] at hv; omega
      rw [varL_hi v (by omega)]
      simp only [List.cons_append, vsz, List.length_cons]
      rw [toNat_of _ (by omega), if_neg (by omega), if_pos (by omega), ih (v / 128) (by omega) (i + 1) (by omega) hq (fun _ => by omega)]
      omega
/-- What is told is a number as it is written. -/
theorem vsz_some (l : List UInt8) (i : Nat) (hi : i ≤ 10) (h : vsz i l ≠ 0) :
    ∃ m, vsz i l = i + m ∧ 1 ≤ m ∧ m ≤ l.length ∧ i + m ≤ 10 ∧ varL (valL (l.take m)) = l.take m ∧ valL (l.take m) < 2 ^ (64 - 7 * i) ∧ (0 < i → 0 < valL (l.take m)) := by
  induction l generalizing i with
  | nil => exact absurd rfl h
  | cons b t ih =>
    simp only [vsz] at h ⊢
    by_cases h10 : 10 ≤ i
    · rw [if_pos h10] at h; exact absurd rfl h
    · rw [if_neg h10] at h ⊢
      by_cases hb : 128 ≤ b.toNat
      · rw [if_pos hb] at h ⊢
        obtain ⟨m, e, h1, h2, h3, h4, h5, h6⟩ := ih (i + 1) (by omega) h
        have h7 := h6 (by omega)
        have hlt := byte_lt b
        have hp := pow_part i (by omega)
        refine ⟨m + 1, by omega, by omega, by simp; omega, by omega, ?_, ?_, ?_⟩
        · rw [List.take_succ_cons]
          simp only [valL]
          rw [varL_hi _ (by omega)]
          have e1 : (b.toNat % 128 + 128 * valL (t.take m)) % 128 + 128 = b.toNat := by omega
          have e2 : (b.toNat % 128 + 128 * valL (t.take m)) / 128 = valL (t.take m) := by omega
          rw [e1, e2, h4, UInt8.ofNat_toNat]
        · rw [List.take_succ_cons]; simp only [valL]; rw [hp]; omega
        · intro _; rw [List.take_succ_cons]; simp only [valL]; omega
      · rw [if_neg hb] at h ⊢
        by_cases hc : (0 < i ∧ b.toNat = 0) ∨ (i = 9 ∧ 1 < b.toNat)
        · rw [if_pos hc] at h; exact absurd rfl h
        · rw [if_neg hc]
          refine ⟨1, rfl, Nat.le_refl _, by simp, by omega, ?_, ?_, ?_⟩
          · rw [List.take_succ_cons, List.take_zero]
            simp only [valL]
            rw [varL_lo _ (by omega), show b.toNat % 128 + 128 * 0 = b.toNat by omega, UInt8.ofNat_toNat]
          · rw [List.take_succ_cons, List.take_zero]
            simp only [valL]
            by_cases h9 : i = 9
            · have := pow_small i (by omega) (by omega); omega
            · have hp : 2 ^ 7 ≤ 2 ^ (64 - 7 * i) := Nat.pow_le_pow_right (by omega) (by omega)
              omega
          · intro hi0
            rw [List.take_succ_cons, List.take_zero]
            simp only [valL]
            omega
theorem vsz_step (l : List UInt8) (k : Nat) (h : k < l.length) (hk : k < 10) (hb : 128 ≤ (l[k]).toNat) : vsz k (l.drop k) = vsz (k + 1) (l.drop (k + 1)) := by
  rw [List.drop_eq_getElem_cons h]
  simp only [vsz]
  rw [if_neg (by omega), if_pos hb]
theorem vsz_last (l : List UInt8) (k : Nat) (h : k < l.length) (hk : k < 10) (hb : (l[k]).toNat < 128) : vsz k (l.drop k) = if (0 < k ∧ (l[k]).toNat = 0) ∨ (k = 9 ∧ 1 < (l[k]).toNat) then 0 else k + 1 := by
  rw [List.drop_eq_getElem_cons h]
  simp only [vsz]
  rw [if_neg (by omega), if_neg (by omega)]
theorem vsz_end (l : List UInt8) (k : Nat) (h : l.length ≤ k ∨ 10 ≤ k) : vsz k (l.drop k) = 0 := by
  by_cases hl : l.length ≤ k
  · rw [List.drop_of_length_le hl]; rfl
  · rw [List.drop_eq_getElem_cons (by omega)]
    simp only [vsz]
    rw [if_pos (by omega)]

theorem rdV_varL (v : Nat) (s : List UInt8) (h : v < 18446744073709551616) : rdV (varL v ++ s) = some (v, s) := by
  have e := vsz_varL v s 0 (by omega) h (fun hh => by omega)
  have hl := varL_len v
  unfold rdV
  rw [e, Nat.zero_add, if_neg (by omega), List.take_left, List.drop_left, valL_varL]
theorem rdV_some {l : List UInt8} {v : Nat} {r : List UInt8} (h : rdV l = some (v, r)) : varL v ++ r = l ∧ v < 18446744073709551616 ∧ vsz 0 l ≠ 0 ∧ vsz 0 l ≤ l.length ∧ vsz 0 l ≤ 10 ∧ v = valL (l.take (vsz 0 l)) ∧ r = l.drop (vsz 0 l) := by
  unfold rdV at h
  by_cases hz : vsz 0 l = 0
  · rw [if_pos hz] at h; cases h
  · rw [if_neg hz] at h
    obtain ⟨m, e, h1, h2, h3, h4, h5, _⟩ := vsz_some l 0 (by omega) hz
    rw [e, Nat.zero_add] at h ⊢
    cases h
    exact ⟨by rw [h4, List.take_append_drop], h5, by omega, h2, by omega, rfl, rfl⟩
theorem rdV_none {l : List UInt8} (h : rdV l = none) : vsz 0 l = 0 := by
  unfold rdV at h
  by_cases hz : vsz 0 l = 0
  · exact hz
  · rw [if_neg hz] at h; cases h
/-- The reader that writes anew and compares reads the same. -/
theorem rd_again (l : List UInt8) (k : Nat) (hz : vsz 0 l = 0) : varL (valL (l.take (k + 1)) % 18446744073709551616) ≠ l.take (k + 1) := by
  intro h
  have e := rdV_varL (valL (l.take (k + 1)) % 18446744073709551616) (l.drop (k + 1)) (Nat.mod_lt _ (by omega))
  rw [h, List.take_append_drop] at e
  exact (rdV_some e).2.2.1 hz
theorem rd_again' (l : List UInt8) (hz : vsz 0 l ≠ 0) : varL (valL (l.take (vsz 0 l)) % 18446744073709551616) = l.take (vsz 0 l) ∧ valL (l.take (vsz 0 l)) % 18446744073709551616 = valL (l.take (vsz 0 l)) := by
  obtain ⟨m, e, h1, h2, h3, h4, h5, _⟩ := vsz_some l 0 (by omega) hz
  rw [e, Nat.zero_add]
  have e2 : valL (l.take m) % 18446744073709551616 = valL (l.take m) := Nat.mod_eq_of_lt h5
  exact ⟨by rw [e2, h4], e2⟩

theorem rdT_textL (t s : List UInt8) (h : t.length < 18446744073709551616) : rdT (textL t ++ s) = some (t, s) := by
  unfold rdT textL
  rw [List.append_assoc, rdV_varL _ _ h]
  simp
theorem rdT_some {l t r : List UInt8} (h : rdT l = some (t, r)) : textL t ++ r = l := by
  unfold rdT at h
  cases hv : rdV l with
  | none => rw [hv] at h; cases h
  | some p =>
    obtain ⟨n, q⟩ := p
    rw [hv] at h
    simp only at h
    by_cases hn : n ≤ q.length
    · rw [if_pos hn] at h
      cases h
      have e := (rdV_some hv).1
      unfold textL
      rw [List.length_take, Nat.min_eq_left hn, List.append_assoc, List.take_append_drop, e]
    · rw [if_neg hn] at h; cases h

theorem valL_snoc (l : List UInt8) (b : UInt8) : valL (l ++ [b]) = valL l + (b.toNat % 128) * 128 ^ l.length := by
  induction l with
  | nil => simp [valL]
  | cons c l ih =>
    simp only [List.cons_append, valL, ih, List.length_cons, Nat.pow_succ]
    rw [Nat.mul_add, ← Nat.mul_assoc, Nat.mul_comm 128 (b.toNat % 128), Nat.mul_assoc, Nat.mul_comm 128 (128 ^ l.length)]
    omega
theorem valL_lt (l : List UInt8) : valL l < 128 ^ l.length := by
  induction l with
  | nil => simp [valL]
  | cons c l ih => simp only [valL, List.length_cons, Nat.pow_succ]; omega

/-- Four bytes of a number. -/
def fixL (v : Nat) : List UInt8 := [UInt8.ofNat v, UInt8.ofNat (v / 256), UInt8.ofNat (v / 65536), UInt8.ofNat (v / 16777216)]
def unfix (a b c d : UInt8) : Nat := a.toNat + 256 * b.toNat + 65536 * c.toNat + 16777216 * d.toNat
theorem unfix_fixL (v : Nat) (h : v < 4294967296) : unfix (UInt8.ofNat v) (UInt8.ofNat (v / 256)) (UInt8.ofNat (v / 65536)) (UInt8.ofNat (v / 16777216)) = v := by
  unfold unfix
  simp only [UInt8.toNat_ofNat']
  omega

end Go.Proofs.Ytfmnbabkdpiboaa.Fr
/- Directories in plain lists: when they are right, their bytes, and how these are read. -/
namespace Go.Proofs.Ytfmnbabkdpiboaa
open Go.RowKit
open Fr (varL rdV textL rdT fixL unfix crcL rdV_varL rdV_some rdT_textL rdT_some varL_len)

/-- A file. -/
structure Fl where
  name : ByteArray
  shut : Bool
  size : Int
  ext : List (Int × Int)

/-! Names. -/
def okByte (c : UInt8) : Bool := (decide (97 ≤ c.toNat) && decide (c.toNat ≤ 122)) || (decide (48 ≤ c.toNat) && decide (c.toNat ≤ 57)) || decide (c.toNat = 46) || decide (c.toNat = 45) || decide (c.toNat = 95)
def okName (s : ByteArray) : Bool := decide (1 ≤ s.size) && decide (s.size ≤ 24) && s.data.toList.all okByte
/-- Byte by byte. -/
def less (s t : ByteArray) : Bool := Op.bytesLess s.toList t.toList
theorem bl_irr (a : List UInt8) : Op.bytesLess a a = false := by
  induction a with
  | nil => rfl
  | cons x r ih => simp [Op.bytesLess, ih]
theorem bl_trans (a b c : List UInt8) (h1 : Op.bytesLess a b = true) (h2 : Op.bytesLess b c = true) : Op.bytesLess a c = true := by
  induction a generalizing b c with
  | nil =>
    cases c with
    | nil => cases b <;> simp [Op.bytesLess] at h2
    | cons _ _ => rfl
  | cons x r ih =>
    cases b with
    | nil => simp [Op.bytesLess] at h1
    | cons y q =>
      cases c with
      | nil => simp [Op.bytesLess] at h2
      | cons z p =>
        simp only [Op.bytesLess, Bool.or_eq_true, Bool.and_eq_true, decide_eq_true_eq, beq_iff_eq] at h1 h2 ⊢
        rcases h1 with h1 | ⟨rfl, h1⟩
        · rcases h2 with h2 | ⟨rfl, _⟩
          · exact .inl (UInt8.lt_trans h1 h2)
          · exact .inl h1
        · rcases h2 with h2 | ⟨rfl, h2⟩
          · exact .inl h2
          · exact .inr ⟨rfl, ih q p h1 h2⟩
theorem bl_total (a b : List UInt8) (h1 : Op.bytesLess a b = false) (h2 : Op.bytesLess b a = false) : a = b := by
  induction a generalizing b with
  | nil => cases b with
    | nil => rfl
    | cons _ _ => simp [Op.bytesLess] at h1
  | cons x r ih => cases b with
    | nil => simp [Op.bytesLess] at h2
    | cons y q =>
      simp only [Op.bytesLess, Bool.or_eq_false_iff, Bool.and_eq_false_iff, decide_eq_false_iff_not, beq_eq_false_iff_ne, ne_eq] at h1 h2
      have hxy : x = y := by
        have := h1.1; have := h2.1
        apply UInt8.toNat_inj.1
        simp only [UInt8.lt_iff_toNat_lt] at *
        omega
      subst hxy
      rcases h1.2 with h | h
      · exact absurd rfl h
      · rcases h2.2 with h' | h'
        · exact absurd rfl h'
        · rw [ih q h h']
theorem less_irr (s : ByteArray) : less s s = false := bl_irr _
theorem less_trans {a b c : ByteArray} (h1 : less a b = true) (h2 : less b c = true) : less a c = true := bl_trans _ _ _ h1 h2
theorem toList_inj {s t : ByteArray} (h : s.toList = t.toList) : s = t := by
  rw [ByteArray.toList_eq, ByteArray.toList_eq] at h
  apply ByteArray.ext
  exact Array.ext' h
theorem less_total {a b : ByteArray} (h1 : less a b = false) (h2 : less b a = false) : a = b := toList_inj (bl_total _ _ h1 h2)
theorem less_asymm {a b : ByteArray} (h : less a b = true) : less b a = false := by
  cases e : less b a with
  | false => rfl
  | true => have := less_trans h e; rw [less_irr] at this; cases this
/-- Not less, then less. -/
theorem le_less {a b c : ByteArray} (h1 : less b a = false) (h2 : less b c = true) : less a c = true := by
  cases e : less a b with
  | true => exact less_trans e h2
  | false => rw [less_total e h1]; exact h2

/-! Extents. -/
def need (size : Int) : Int := (size + 255) / 256
def sumC (E : List (Int × Int)) : Int := (E.map (·.2)).sum
theorem sumC_append (E F : List (Int × Int)) : sumC (E ++ F) = sumC E + sumC F := by simp [sumC]
theorem sumC_cons (x : Int × Int) (F : List (Int × Int)) : sumC (x :: F) = x.2 + sumC F := by simp [sumC]
theorem sumC_len (E : List (Int × Int)) (h : ∀ x ∈ E, 1 ≤ x.2) : (E.length : Int) ≤ sumC E := by
  induction E with
  | nil => simp [sumC]
  | cons x r ih =>
    rw [sumC_cons, List.length_cons]
    have := h x (by simp)
    have := ih fun y hy => h y (by simp [hy])
    omega
structure Filled (f : Fl) : Prop where
  size : 0 ≤ f.size
  few : f.ext.length ≤ 16
  some : ∀ x ∈ f.ext, 1 ≤ x.2
  sum : sumC f.ext = need f.size
structure Among (x : Int × Int) (a b : Int) : Prop where
  lo : a ≤ x.1
  hi : x.1 < b
  fit : x.2 ≤ b - x.1
def Apart (x y : Int × Int) : Prop := x.1 + x.2 ≤ y.1 ∨ y.1 + y.2 ≤ x.1
theorem Apart.symm {x y : Int × Int} (h : Apart x y) : Apart y x := Or.symm h
def allE (L : List Fl) : List (Int × Int) := L.flatMap (·.ext)
theorem allE_append (L M : List Fl) : allE (L ++ M) = allE L ++ allE M := by simp [allE]
theorem allE_cons (f : Fl) (M : List Fl) : allE (f :: M) = f.ext ++ allE M := by simp [allE]

/-- A directory that is right, but for how many files it has. -/
structure Right0 (L : List Fl) (a b : Int) : Prop where
  names : ∀ f ∈ L, okName f.name = true
  rise : L.Pairwise fun f g => less f.name g.name = true
  filled : ∀ f ∈ L, Filled f
  among : ∀ x ∈ allE L, Among x a b
  apart : (allE L).Pairwise Apart
def RightP (L : List Fl) (a b : Int) : Prop := L.length ≤ 64 ∧ Right0 L a b
theorem Right0.nil (a b : Int) : Right0 [] a b := ⟨by simp, by simp, by simp, by simp [allE], by simp [allE]⟩
theorem Right0.left {L M : List Fl} {a b : Int} (h : Right0 (L ++ M) a b) : Right0 L a b := by
  refine ⟨fun f hf => h.names f (by simp [hf]), (List.pairwise_append.1 h.rise).1, fun f hf => h.filled f (by simp [hf]), fun x hx => h.among x (by rw [allE_append]; simp [hx]), ?_⟩
  have := h.apart
  rw [allE_append] at this
  exact (List.pairwise_append.1 this).1
/-- One file more. -/
theorem Right0.snoc {L : List Fl} {f : Fl} {a b : Int} (h : Right0 L a b) (hn : okName f.name = true) (hr : ∀ g ∈ L, less g.name f.name = true) (hf : Filled f) (ha : ∀ x ∈ f.ext, Among x a b) (hp : f.ext.Pairwise Apart) (hx : ∀ x ∈ allE L, ∀ y ∈ f.ext, Apart x y) : Right0 (L ++ [f]) a b := by
  have e : allE (L ++ [f]) = allE L ++ f.ext := by simp [allE]
  refine ⟨fun g hg => ?_, List.pairwise_append.2 ⟨h.rise, by simp, fun g hg q hq => ?_⟩, fun g hg => ?_, fun x hx => ?_, ?_⟩
  · rcases List.mem_append.1 hg with hg | hg
    · exact h.names g hg
    · rw [List.mem_singleton.1 hg]; exact hn
  · rw [List.mem_singleton.1 hq]; exact hr g hg
  · rcases List.mem_append.1 hg with hg | hg
    · exact h.filled g hg
    · rw [List.mem_singleton.1 hg]; exact hf
  · rw [e] at hx
    rcases List.mem_append.1 hx with hx | hx
    · exact h.among x hx
    · exact ha x hx
  · rw [e]; exact List.pairwise_append.2 ⟨h.apart, hp, hx⟩

/-! Bytes. -/
def extL (x : Int × Int) : List UInt8 := varL x.1.toNat ++ varL x.2.toNat
def fileL (f : Fl) : List UInt8 := textL f.name.data.toList ++ varL (if f.shut then 1 else 0) ++ varL f.size.toNat ++ varL f.ext.length ++ f.ext.flatMap extL
def dirL (L : List Fl) : List UInt8 := [67, 68, 88, 73] ++ varL L.length ++ L.flatMap fileL
def packL (L : List Fl) : List UInt8 := dirL L ++ fixL (crcL (dirL L))
def packed (L : List Fl) : List UInt8 := packL L ++ List.replicate (3072 - (packL L).length) 0

/-! How they are read. -/
def pNum (most : Nat) (l : List UInt8) : Option (Nat × List UInt8) := match rdV l with
  | some (v, r) => if v ≤ most then some (v, r) else none
  | none => none
def pExts : Nat → List UInt8 → Option (List (Int × Int) × List UInt8)
  | 0, l => some ([], l)
  | n + 1, l => do
    let (a, l1) ← pNum 4096 l
    let (c, l2) ← pNum 4096 l1
    let (E, l3) ← pExts n l2
    return (((a : Int), (c : Int)) :: E, l3)
def pFile (l : List UInt8) : Option (Fl × List UInt8) := do
  let (t, l1) ← rdT l
  let (s, l2) ← pNum 1 l1
  let (z, l3) ← pNum 2147483647 l2
  let (n, l4) ← pNum 16 l3
  let (E, l5) ← pExts n l4
  return (⟨⟨t.toArray⟩, s == 1, (z : Int), E⟩, l5)
def pFiles : Nat → List UInt8 → Option (List Fl × List UInt8)
  | 0, l => some ([], l)
  | n + 1, l => do
    let (f, l1) ← pFile l
    let (L, l2) ← pFiles n l1
    return (f :: L, l2)
def pDir (l : List UInt8) : Option (List Fl × List UInt8) := do
  let (n, l1) ← pNum 64 l
  pFiles n l1

theorem pNum_varL (most v : Nat) (s : List UInt8) (h : v ≤ most) (hm : most < 18446744073709551616) : pNum most (varL v ++ s) = some (v, s) := by
  unfold pNum; rw [rdV_varL v s (by omega)]; simp [h]
theorem pNum_some {most v : Nat} {l r : List UInt8} (h : pNum most l = some (v, r)) : varL v ++ r = l ∧ v ≤ most := by
  unfold pNum at h
  split at h
  · rename_i v' r' e
    split at h
    · cases h; exact ⟨(rdV_some e).1, by assumption⟩
    · cases h
  · cases h
theorem pExts_back (E : List (Int × Int)) (s : List UInt8) (h : ∀ x ∈ E, 0 ≤ x.1 ∧ x.1 ≤ 4096 ∧ 0 ≤ x.2 ∧ x.2 ≤ 4096) : pExts E.length (E.flatMap extL ++ s) = some (E, s) := by
  induction E with
  | nil => rfl
  | cons x r ih =>
    obtain ⟨h1, h2, h3, h4⟩ := h x (by simp)
    rw [List.flatMap_cons, extL, List.length_cons, pExts, List.append_assoc, List.append_assoc, pNum_varL 4096 _ _ (by omega) (by omega)]
    simp only [Option.bind_eq_bind, Option.bind_some]
    rw [pNum_varL 4096 _ _ (by omega) (by omega)]
    simp only [Option.bind_some]
    rw [ih fun y hy => h y (by simp [hy])]
    simp only [Option.bind_some, Option.pure_def, Option.some.injEq, Prod.mk.injEq, List.cons.injEq, and_true]
    ext <;> simp <;> omega
theorem pExts_some {n : Nat} {l r : List UInt8} {E : List (Int × Int)} (h : pExts n l = some (E, r)) : E.flatMap extL ++ r = l ∧ E.length = n ∧ ∀ x ∈ E, 0 ≤ x.1 ∧ x.1 ≤ 4096 ∧ 0 ≤ x.2 ∧ x.2 ≤ 4096 := by
  induction n generalizing l E with
  | zero => cases h; simp
  | succ n ih =>
    rw [pExts] at h
    simp only [Option.bind_eq_bind] at h
    cases e1 : pNum 4096 l with
    | none => rw [e1] at h; cases h
    | some p1 =>
      obtain ⟨a, l1⟩ := p1
      rw [e1] at h; simp only [Option.bind_some] at h
      cases e2 : pNum 4096 l1 with
      | none => rw [e2] at h; cases h
      | some p2 =>
        obtain ⟨c, l2⟩ := p2
        rw [e2] at h; simp only [Option.bind_some] at h
        cases e3 : pExts n l2 with
        | none => rw [e3] at h; cases h
        | some p3 =>
          obtain ⟨E', l3⟩ := p3
          rw [e3] at h; simp only [Option.bind_some, Option.pure_def, Option.some.injEq, Prod.mk.injEq] at h
          obtain ⟨rfl, rfl⟩ := h
          obtain ⟨h1, h2, h3⟩ := ih e3
          obtain ⟨g1, g2⟩ := pNum_some e1
          obtain ⟨g3, g4⟩ := pNum_some e2
          refine ⟨?_, by simp [h2], fun x hx => ?_⟩
          · rw [List.flatMap_cons, extL]
            simp only [Int.toNat_natCast, List.append_assoc]
            rw [h1, g3, g1]
          · rcases List.mem_cons.1 hx with rfl | hx
            · dsimp; omega
            · exact h3 x hx
/-- What a file's numbers are bounded by. -/
structure Small (f : Fl) : Prop where
  name : f.name.size ≤ 1000000
  size : 0 ≤ f.size ∧ f.size ≤ 2147483647
  few : f.ext.length ≤ 16
  ext : ∀ x ∈ f.ext, 0 ≤ x.1 ∧ x.1 ≤ 4096 ∧ 0 ≤ x.2 ∧ x.2 ≤ 4096
theorem pFile_back (f : Fl) (s : List UInt8) (h : Small f) : pFile (fileL f ++ s) = some (f, s) := by
  have h0 := h.name
  obtain ⟨h1, h2⟩ := h.size
  have hl : f.name.data.toList.length = f.name.size := by simp
  unfold pFile fileL
  simp only [List.append_assoc]
  rw [rdT_textL _ _ (by rw [hl]; omega)]
  simp only [Option.bind_eq_bind, Option.bind_some]
  rw [pNum_varL 1 _ _ (by split <;> omega) (by omega)]
  simp only [Option.bind_some]
  rw [pNum_varL 2147483647 _ _ (by omega) (by omega)]
  simp only [Option.bind_some]
  rw [pNum_varL 16 _ _ h.few (by omega)]
  simp only [Option.bind_some]
  rw [pExts_back _ _ h.ext]
  simp only [Option.bind_some, Option.pure_def, Option.some.injEq, Prod.mk.injEq, and_true]
  have e1 : ((if f.shut = true then 1 else 0 : Nat) == 1) = f.shut := by cases f.shut <;> rfl
  have e2 : ((f.size.toNat : Nat) : Int) = f.size := by omega
  have e3 : (⟨f.name.data.toList.toArray⟩ : ByteArray) = f.name := by simp
  rw [e1, e2, e3]
theorem pFile_some {l r : List UInt8} {f : Fl} (h : pFile l = some (f, r)) : fileL f ++ r = l ∧ 0 ≤ f.size ∧ f.size ≤ 2147483647 ∧ f.ext.length ≤ 16 ∧ ∀ x ∈ f.ext, 0 ≤ x.1 ∧ x.1 ≤ 4096 ∧ 0 ≤ x.2 ∧ x.2 ≤ 4096 := by
  unfold pFile at h
  simp only [Option.bind_eq_bind] at h
  cases e1 : rdT l with
  | none => rw [e1] at h; cases h
  | some p =>
    obtain ⟨t, l1⟩ := p
    rw [e1] at h; simp only [Option.bind_some] at h
    cases e2 : pNum 1 l1 with
    | none => rw [e2] at h; cases h
    | some p =>
      obtain ⟨s, l2⟩ := p
      rw [e2] at h; simp only [Option.bind_some] at h
      cases e3 : pNum 2147483647 l2 with
      | none => rw [e3] at h; cases h
      | some p =>
        obtain ⟨z, l3⟩ := p
        rw [e3] at h; simp only [Option.bind_some] at h
        cases e4 : pNum 16 l3 with
        | none => rw [e4] at h; cases h
        | some p =>
          obtain ⟨n, l4⟩ := p
          rw [e4] at h; simp only [Option.bind_some] at h
          cases e5 : pExts n l4 with
          | none => rw [e5] at h; cases h
          | some p =>
            obtain ⟨E, l5⟩ := p
            rw [e5] at h; simp only [Option.bind_some, Option.pure_def, Option.some.injEq, Prod.mk.injEq] at h
            obtain ⟨rfl, rfl⟩ := h
            have g1 := rdT_some e1
            obtain ⟨g2, g2'⟩ := pNum_some e2
            obtain ⟨g3, g3'⟩ := pNum_some e3
            obtain ⟨g4, g4'⟩ := pNum_some e4
            obtain ⟨g5, g5', g5''⟩ := pExts_some e5
            refine ⟨?_, by dsimp; omega, by dsimp; omega, by dsimp; omega, g5''⟩
            unfold fileL
            have es : (if (s == 1) = true then 1 else 0 : Nat) = s := by
              rcases (by omega : s = 0 ∨ s = 1) with rfl | rfl <;> rfl
            simp only [List.append_assoc, Int.toNat_natCast, g5', es]
            rw [g5, g4, g3, g2, g1]
theorem pFiles_back (L : List Fl) (s : List UInt8) (h : ∀ f ∈ L, Small f) : pFiles L.length (L.flatMap fileL ++ s) = some (L, s) := by
  induction L with
  | nil => rfl
  | cons f r ih =>
    rw [List.flatMap_cons, List.length_cons, pFiles, List.append_assoc, pFile_back f _ (h f (by simp))]
    simp only [Option.bind_eq_bind, Option.bind_some]
    rw [ih fun y hy => h y (by simp [hy])]
    rfl
theorem pFiles_some {n : Nat} {l r : List UInt8} {L : List Fl} (h : pFiles n l = some (L, r)) : L.flatMap fileL ++ r = l ∧ L.length = n ∧ ∀ f ∈ L, 0 ≤ f.size ∧ f.size ≤ 2147483647 ∧ f.ext.length ≤ 16 ∧ ∀ x ∈ f.ext, 0 ≤ x.1 ∧ x.1 ≤ 4096 ∧ 0 ≤ x.2 ∧ x.2 ≤ 4096 := by
  induction n generalizing l L with
  | zero => cases h; simp
  | succ n ih =>
    rw [pFiles] at h
    simp only [Option.bind_eq_bind] at h
    cases e1 : pFile l with
    | none => rw [e1] at h; cases h
    | some p1 =>
      obtain ⟨f, l1⟩ := p1
      rw [e1] at h; simp only [Option.bind_some] at h
      cases e3 : pFiles n l1 with
      | none => rw [e3] at h; cases h
      | some p3 =>
        obtain ⟨L', l3⟩ := p3
        rw [e3] at h; simp only [Option.bind_some, Option.pure_def, Option.some.injEq, Prod.mk.injEq] at h
        obtain ⟨rfl, rfl⟩ := h
        obtain ⟨h1, h2, h3⟩ := ih e3
        obtain ⟨g1, g2⟩ := pFile_some e1
        refine ⟨?_, by simp [h2], fun x hx => ?_⟩
        · rw [List.flatMap_cons, List.append_assoc, h1, g1]
        · rcases List.mem_cons.1 hx with rfl | hx
          · exact g2
          · exact h3 x hx
theorem pDir_back (L : List Fl) (s : List UInt8) (hn : L.length ≤ 64) (h : ∀ f ∈ L, Small f) : pDir (varL L.length ++ L.flatMap fileL ++ s) = some (L, s) := by
  unfold pDir
  rw [List.append_assoc, pNum_varL 64 _ _ hn (by omega)]
  simp only [Option.bind_eq_bind, Option.bind_some]
  exact pFiles_back L s h
theorem pDir_some {l r : List UInt8} {L : List Fl} (h : pDir l = some (L, r)) : varL L.length ++ L.flatMap fileL ++ r = l ∧ L.length ≤ 64 ∧ ∀ f ∈ L, 0 ≤ f.size ∧ f.size ≤ 2147483647 ∧ f.ext.length ≤ 16 ∧ ∀ x ∈ f.ext, 0 ≤ x.1 ∧ x.1 ≤ 4096 ∧ 0 ≤ x.2 ∧ x.2 ≤ 4096 := by
  unfold pDir at h
  simp only [Option.bind_eq_bind] at h
  cases e1 : pNum 64 l with
  | none => rw [e1] at h; cases h
  | some p1 =>
    obtain ⟨n, l1⟩ := p1
    rw [e1] at h; simp only [Option.bind_some] at h
    obtain ⟨h1, h2, h3⟩ := pFiles_some h
    obtain ⟨g1, g2⟩ := pNum_some e1
    exact ⟨by rw [List.append_assoc, h1, h2, g1], by omega, h3⟩
/-- What is right is small. -/
theorem RightP.small {L : List Fl} (h : RightP L 0 4096) : ∀ f ∈ L, Small f := by
  intro f hf
  have hF := h.2.filled f hf
  have ha : ∀ x ∈ f.ext, Among x 0 4096 := fun x hx => h.2.among x (by unfold allE; exact List.mem_flatMap.2 ⟨f, hf, hx⟩)
  have hn := h.2.names f hf
  unfold okName at hn
  simp only [Bool.and_eq_true, decide_eq_true_eq] at hn
  have hb : ∀ x ∈ f.ext, 0 ≤ x.1 ∧ x.1 ≤ 4096 ∧ 0 ≤ x.2 ∧ x.2 ≤ 4096 := fun x hx => by
    have h1 := (ha x hx).lo; have h2 := (ha x hx).hi; have h3 := (ha x hx).fit; have h4 := hF.some x hx
    omega
  have hs : ∀ E : List (Int × Int), (∀ x ∈ E, x.2 ≤ 4096) → sumC E ≤ 4096 * E.length := by
    intro E
    induction E with
    | nil => intro _; simp [sumC]
    | cons x r ih =>
      intro h
      have h1 := h x (by simp)
      have h2 := ih fun y hy => h y (by simp [hy])
      rw [sumC_cons, List.length_cons]
      omega
  have h5 := hs f.ext fun x hx => (hb x hx).2.2.2
  have h6 := hF.sum
  have h7 := hF.few
  unfold need at h6
  exact ⟨by omega, ⟨hF.size, by omega⟩, h7, hb⟩

/-! The same as Bools. -/
def amB (x : Int × Int) (a b : Int) : Bool := decide (a ≤ x.1) && decide (x.1 < b) && decide (x.2 ≤ b - x.1)
theorem amB_iff (x : Int × Int) (a b : Int) : amB x a b = true ↔ Among x a b := by
  unfold amB
  simp only [Bool.and_eq_true, decide_eq_true_eq]
  exact ⟨fun ⟨⟨h1, h2⟩, h3⟩ => ⟨h1, h2, h3⟩, fun h => ⟨⟨h.lo, h.hi⟩, h.fit⟩⟩
def fdB (f : Fl) : Bool := decide (0 ≤ f.size) && decide (f.ext.length ≤ 16) && f.ext.all (fun x => decide (1 ≤ x.2)) && decide (sumC f.ext = need f.size)
theorem fdB_iff (f : Fl) : fdB f = true ↔ Filled f := by
  unfold fdB
  simp only [Bool.and_eq_true, decide_eq_true_eq, List.all_eq_true]
  exact ⟨fun ⟨⟨⟨h1, h2⟩, h3⟩, h4⟩ => ⟨h1, h2, h3, h4⟩, fun h => ⟨⟨⟨h.size, h.few⟩, h.some⟩, h.sum⟩⟩
def apB (x y : Int × Int) : Bool := decide (x.1 + x.2 ≤ y.1) || decide (y.1 + y.2 ≤ x.1)
theorem apB_iff (x y : Int × Int) : apB x y = true ↔ Apart x y := by unfold apB Apart; simp
/-- Each two of a list. -/
def pairB {α : Type} (r : α → α → Bool) : List α → Bool
  | [] => true
  | x :: l => l.all (r x) && pairB r l
theorem pairB_iff {α : Type} (r : α → α → Bool) (l : List α) : pairB r l = true ↔ l.Pairwise fun x y => r x y = true := by
  induction l with
  | nil => simp [pairB]
  | cons x l ih => simp [pairB, ih]
def r0B (L : List Fl) (a b : Int) : Bool := L.all (fun f => okName f.name) && pairB (fun f g => less f.name g.name) L && L.all fdB && (allE L).all (fun x => amB x a b) && pairB apB (allE L)
theorem r0B_iff (L : List Fl) (a b : Int) : r0B L a b = true ↔ Right0 L a b := by
  unfold r0B
  simp only [Bool.and_eq_true, List.all_eq_true, pairB_iff, fdB_iff, amB_iff, apB_iff]
  exact ⟨fun ⟨⟨⟨⟨h1, h2⟩, h3⟩, h4⟩, h5⟩ => ⟨h1, h2, h3, h4, h5⟩, fun h => ⟨⟨⟨⟨h.names, h.rise⟩, h.filled⟩, h.among⟩, h.apart⟩⟩
def rtB (L : List Fl) (a b : Int) : Bool := decide (L.length ≤ 64) && r0B L a b
theorem rtB_iff (L : List Fl) (a b : Int) : rtB L a b = true ↔ RightP L a b := by
  unfold rtB RightP
  simp only [Bool.and_eq_true, decide_eq_true_eq, r0B_iff]
theorem bool_false {b : Bool} {p : Prop} (h : b = true ↔ p) (hp : ¬ p) : b = false := by
  cases b with
  | false => rfl
  | true => exact absurd (h.1 rfl) hp
end Go.Proofs.Ytfmnbabkdpiboaa
