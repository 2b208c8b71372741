/- The sum of bytes, and numbers and texts as bytes, in plain numbers and lists: nothing of the program is walked here. -/
import Derived.WalkKit

namespace Go.Proofs.YtepfcaopboenpaaGreat.Fr

/-- One bit of the sum. -/
def cStep (c : Nat) : Nat := if c % 2 = 1 then c / 2 ^^^ 3988292384 else c / 2
def cIter : Nat → Nat → Nat
  | 0, c => c
  | n + 1, c => cIter n (cStep c)
/-- The sum with one byte more, and with a list of bytes more. -/
def addB (c : Nat) (b : UInt8) : Nat := cIter 8 (c ^^^ b.toNat)
def crcRaw (c : Nat) (l : List UInt8) : Nat := l.foldl addB c
def crcL (l : List UInt8) : Nat := crcRaw 4294967295 l ^^^ 4294967295

theorem cStep_xor (a b : Nat) : cStep (a ^^^ b) = cStep a ^^^ cStep b := by
  have hd : (a ^^^ b) / 2 = a / 2 ^^^ b / 2 := Nat.xor_div_two
  have hm : (a ^^^ b) % 2 = (a % 2) ^^^ (b % 2) := Nat.xor_mod_two_pow (n := 1)
  unfold cStep
  rw [hd, hm]
  rcases Nat.mod_two_eq_zero_or_one a with ha | ha <;> rcases Nat.mod_two_eq_zero_or_one b with hb | hb <;> rw [ha, hb] <;> simp
  · rw [Nat.xor_assoc]
  · rw [Nat.xor_assoc, Nat.xor_comm (b / 2), ← Nat.xor_assoc]
  · apply Nat.eq_of_testBit_eq
    intro i
    simp only [Nat.testBit_xor]
    cases (a / 2).testBit i <;> cases (b / 2).testBit i <;> cases Nat.testBit 3988292384 i <;> rfl
theorem cIter_xor (n a b : Nat) : cIter n (a ^^^ b) = cIter n a ^^^ cIter n b := by
  induction n generalizing a b with
  | zero => rfl
  | succ n ih => unfold cIter; rw [cStep_xor, ih]
theorem cIter_add (m n c : Nat) : cIter (m + n) c = cIter n (cIter m c) := by
  induction m generalizing c with
  | zero => rw [Nat.zero_add]; rfl
  | succ m ih =>
    have e : m + 1 + n = m + n + 1 := by omega
    rw [e]; show cIter (m + n) (cStep c) = cIter n (cIter m (cStep c)); exact ih _
theorem cIter_succ' (n c : Nat) : cIter (n + 1) c = cStep (cIter n c) := cIter_add n 1 c
theorem cStep_lt (c : Nat) (h : c < 4294967296) : cStep c < 4294967296 := by
  unfold cStep
  split
  · have : c / 2 ^^^ 3988292384 < 2 ^ 32 := Nat.xor_lt_two_pow (by omega) (by omega)
    omega
  · omega
theorem cIter_lt (n c : Nat) (h : c < 4294967296) : cIter n c < 4294967296 := by
  induction n generalizing c with
  | zero => exact h
  | succ n ih => exact ih _ (cStep_lt c h)
theorem xor_lt32 (a b : Nat) (ha : a < 4294967296) (hb : b < 4294967296) : a ^^^ b < 4294967296 := by
  have : a ^^^ b < 2 ^ 32 := Nat.xor_lt_two_pow (by omega) (by omega)
  omega
theorem byte_lt (b : UInt8) : b.toNat < 256 := b.toNat_lt
theorem addB_lt (c : Nat) (b : UInt8) (h : c < 4294967296) : addB c b < 4294967296 := cIter_lt _ _ (xor_lt32 _ _ h (by have := byte_lt b; omega))
theorem crcRaw_lt (l : List UInt8) (c : Nat) (h : c < 4294967296) : crcRaw c l < 4294967296 := by
  induction l generalizing c with
  | nil => exact h
  | cons b l ih => exact ih _ (addB_lt c b h)
theorem crcL_lt (l : List UInt8) : crcL l < 4294967296 := xor_lt32 _ _ (crcRaw_lt l _ (by omega)) (by omega)
theorem crcRaw_append (c : Nat) (l m : List UInt8) : crcRaw c (l ++ m) = crcRaw (crcRaw c l) m := List.foldl_append ..
theorem crcRaw_snoc (c : Nat) (l : List UInt8) (b : UInt8) : crcRaw c (l ++ [b]) = addB (crcRaw c l) b := crcRaw_append c l [b]

theorem cStep_even (a : Nat) : cStep (2 * a) = a := by unfold cStep; rw [if_neg (by omega)]; omega
theorem cIter_shift (k a : Nat) : cIter k (a * 2 ^ k) = a := by
  induction k generalizing a with
  | zero => simp [cIter]
  | succ k ih =>
    have e : a * 2 ^ (k + 1) = 2 * (a * 2 ^ k) := by rw [Nat.pow_succ, ← Nat.mul_assoc, Nat.mul_comm 2]
    unfold cIter; rw [e, cStep_even, ih]
theorem cStep_zero (c : Nat) (h : c < 4294967296) (hz : cStep c = 0) : c = 0 := by
  unfold cStep at hz
  split at hz
  · have h2 := congrArg (· ^^^ 3988292384) hz
    simp only [Nat.xor_assoc, Nat.xor_self, Nat.xor_zero, Nat.zero_xor] at h2
    omega
  · omega
theorem cIter_zero (n c : Nat) (h : c < 4294967296) (hz : cIter n c = 0) : c = 0 := by
  induction n generalizing c with
  | zero => exact hz
  | succ n ih => exact cStep_zero c h (ih _ (cStep_lt c h) hz)

/-- Bytes as one number, the first the lowest. -/
def leN : List UInt8 → Nat
  | [] => 0
  | b :: l => b.toNat + 256 * leN l
theorem low_xor (b x : Nat) (hb : b < 256) : b + 256 * x = b ^^^ 256 * x := by
  have e : b + 256 * x = 2 ^ 8 * x + b := by omega
  have e2 : 256 * x = 2 ^ 8 * x := by omega
  rw [e, e2]
  apply Nat.eq_of_testBit_eq
  intro i
  rw [Nat.testBit_two_pow_mul_add _ (by omega), Nat.testBit_xor, Nat.testBit_two_pow_mul]
  by_cases h : i < 8
  · rw [if_pos h, decide_eq_false (by omega)]; simp
  · rw [if_neg h, decide_eq_true (by omega), Nat.testBit_lt_two_pow (x := b) (i := i)]
    · simp
    · exact Nat.lt_of_lt_of_le (show b < 2 ^ 8 by omega) (Nat.pow_le_pow_right (by omega) (by omega))
theorem mul_xor (k x y : Nat) : (x ^^^ y) * 2 ^ k = x * 2 ^ k ^^^ y * 2 ^ k := by
  rw [← Nat.shiftLeft_eq, ← Nat.shiftLeft_eq, ← Nat.shiftLeft_eq, Nat.shiftLeft_xor_distrib]
theorem crcRaw_le (l : List UInt8) (c : Nat) : crcRaw c l = cIter (8 * l.length) (c ^^^ leN l) := by
  induction l generalizing c with
  | nil => simp [crcRaw, leN, cIter]
  | cons b l ih =>
    have e : 8 * (b :: l).length = 8 + 8 * l.length := by simp; omega
    have e2 : c ^^^ leN (b :: l) = (c ^^^ b.toNat) ^^^ leN l * 2 ^ 8 := by
      show c ^^^ (b.toNat + 256 * leN l) = _
      rw [low_xor _ _ (byte_lt b), Nat.xor_assoc, Nat.mul_comm 256]
    rw [e, cIter_add, e2, cIter_xor 8, cIter_shift]
    exact ih (addB c b)
theorem leN_inj (l m : List UInt8) (hl : l.length = m.length) (h : leN l = leN m) : l = m := by
  induction l generalizing m with
  | nil => cases m with
    | nil => rfl
    | cons => simp at hl
  | cons b l ih =>
    cases m with
    | nil => simp at hl
    | cons c m =>
      simp only [leN] at h
      have h1 := byte_lt b
      have h2 := byte_lt c
      have hb : b.toNat = c.toNat := by omega
      rw [UInt8.toNat_inj.1 hb, ih m (by simpa using hl) (by omega)]
theorem leN_set (l : List UInt8) (i : Nat) (h : i < l.length) (m : UInt8) : leN (l.set i (l[i] ^^^ m)) = leN l ^^^ m.toNat * 2 ^ (8 * i) := by
  induction l generalizing i with
  | nil => simp at h
  | cons b l ih =>
    cases i with
    | zero =>
      show (b ^^^ m).toNat + 256 * leN l = (b.toNat + 256 * leN l) ^^^ _
      have h1 := byte_lt (b ^^^ m)
      rw [low_xor _ _ (byte_lt b), low_xor _ _ h1, UInt8.toNat_xor]
      simp only [Nat.mul_zero, Nat.pow_zero, Nat.mul_one]
      rw [Nat.xor_assoc, Nat.xor_assoc, Nat.xor_comm m.toNat]
    | succ i =>
      have hi : i < l.length := by simpa using h
      show b.toNat + 256 * leN (l.set i (l[i] ^^^ m)) = (b.toNat + 256 * leN l) ^^^ _
      have e : m.toNat * 2 ^ (8 * (i + 1)) = m.toNat * 2 ^ (8 * i) * 2 ^ 8 := by rw [Nat.mul_assoc, ← Nat.pow_add]; congr 2
      rw [ih i hi, e, low_xor _ _ (byte_lt b), low_xor _ _ (byte_lt b), Nat.mul_comm 256, Nat.mul_comm 256, show (256 : Nat) = 2 ^ 8 from rfl, mul_xor, Nat.xor_assoc]

/-- Two lists of one length that differ by up to 32 bits beside one another, and have one sum, are one. -/
theorem crc_burst (l m : List UInt8) (hl : m.length = l.length) (k B : Nat) (hk : k ≤ 8 * l.length) (hB : B < 4294967296) (he : leN m = leN l ^^^ B * 2 ^ k) (hc : crcL m = crcL l) : m = l := by
  have h1 : crcRaw 4294967295 m = crcRaw 4294967295 l := by
    have := congrArg (· ^^^ 4294967295) hc
    simpa [crcL, Nat.xor_assoc] using this
  rw [crcRaw_le, crcRaw_le, hl, he, ← Nat.xor_assoc, cIter_xor] at h1
  have h2 : cIter (8 * l.length) (B * 2 ^ k) = 0 := by
    have := congrArg (cIter (8 * l.length) (4294967295 ^^^ leN l) ^^^ ·) h1
    simpa [← Nat.xor_assoc] using this
  have e : 8 * l.length = k + (8 * l.length - k) := by omega
  rw [e, cIter_add, cIter_shift] at h2
  have hz := cIter_zero _ _ hB h2
  subst hz
  apply leN_inj m l hl
  rw [he]; simp

/-- Three lists of one length laid over one another. -/
theorem leN_xor (l m : List UInt8) (hl : l.length = m.length) : leN (List.zipWith (· ^^^ ·) l m) = leN l ^^^ leN m := by
  induction l generalizing m with
  | nil => cases m with
    | nil => rfl
    | cons => simp at hl
  | cons b l ih =>
    cases m with
    | nil => simp at hl
    | cons c m =>
      show (b ^^^ c).toNat + 256 * leN (List.zipWith (· ^^^ ·) l m) = (b.toNat + 256 * leN l) ^^^ (c.toNat + 256 * leN m)
      rw [ih m (by simpa using hl), low_xor _ _ (byte_lt _), low_xor _ _ (byte_lt b), low_xor _ _ (byte_lt c), UInt8.toNat_xor, Nat.mul_comm 256, show (256 : Nat) = 2 ^ 8 from rfl, mul_xor, Nat.mul_comm (2 ^ 8) (leN l), Nat.mul_comm (2 ^ 8) (leN m)]
      ac_rfl
theorem crc_linear (a b c : List UInt8) (hb : a.length = b.length) (hc : a.length = c.length) :
    crcL (List.zipWith (· ^^^ ·) (List.zipWith (· ^^^ ·) a b) c) = crcL a ^^^ crcL b ^^^ crcL c := by
  have h1 : (List.zipWith (· ^^^ ·) a b).length = a.length := by simp; omega
  have h2 : (List.zipWith (· ^^^ ·) (List.zipWith (· ^^^ ·) a b) c).length = a.length := by simp; omega
  unfold crcL
  rw [crcRaw_le, crcRaw_le, crcRaw_le, crcRaw_le, h2, leN_xor _ _ (by omega), leN_xor _ _ hb, ← hb, ← hc]
  simp only [cIter_xor]
  generalize cIter (8 * a.length) 4294967295 = F
  generalize cIter (8 * a.length) (leN a) = A
  generalize cIter (8 * a.length) (leN b) = B
  generalize cIter (8 * a.length) (leN c) = C
  generalize 4294967295 = E
  apply Nat.eq_of_testBit_eq
  intro i
  simp only [Nat.testBit_xor]
  cases F.testBit i <;> cases A.testBit i <;> cases B.testBit i <;> cases C.testBit i <;> cases E.testBit i <;> rfl

/-- What WireFlips turns: after i of the 32 bits. -/
theorem flip_step (n k i bits : Nat) (hk : k < 8 * n) :
    bits % 2 ^ min (i + 1) (8 * n - k) * 2 ^ k = if bits / 2 ^ i % 2 = 1 ∧ k + i < 8 * n then bits % 2 ^ min i (8 * n - k) * 2 ^ k ^^^ 2 ^ (k + i) else bits % 2 ^ min i (8 * n - k) * 2 ^ k := by
  by_cases h : k + i < 8 * n
  · have e1 : min (i + 1) (8 * n - k) = i + 1 := by omega
    have e2 : min i (8 * n - k) = i := by omega
    have hl : bits % 2 ^ i < 2 ^ i := Nat.mod_lt _ (Nat.two_pow_pos i)
    have e3 : bits % 2 ^ (i + 1) = bits % 2 ^ i + 2 ^ i * (bits / 2 ^ i % 2) := Nat.mod_pow_succ
    rw [e1, e2, e3]
    rcases Nat.mod_two_eq_zero_or_one (bits / 2 ^ i) with hb | hb
    · rw [hb, if_neg (by omega)]; simp
    · rw [hb, if_pos ⟨rfl, h⟩, Nat.mul_one, Nat.pow_add, Nat.mul_comm (2 ^ k) (2 ^ i), ← mul_xor]
      congr 1
      apply Nat.eq_of_testBit_eq
      intro j
      have e4 : bits % 2 ^ i + 2 ^ i = 2 ^ i * 1 + bits % 2 ^ i := by omega
      rw [e4, Nat.testBit_two_pow_mul_add _ hl, Nat.testBit_xor, Nat.testBit_two_pow]
      by_cases hj : j < i
      · rw [if_pos hj, decide_eq_false (by omega)]; simp
      · rw [if_neg hj, Nat.testBit_lt_two_pow (x := bits % 2 ^ i) (i := j) (Nat.lt_of_lt_of_le hl (Nat.pow_le_pow_right (by omega) (by omega)))]
        by_cases hij : i = j
        · subst hij; simp
        · rw [decide_eq_false hij]
          have : Nat.testBit 1 (j - i) = false := by
            rw [show (1 : Nat) = 2 ^ 0 from rfl, Nat.testBit_two_pow]; exact decide_eq_false (by omega)
          rw [this]; rfl
  · have e1 : min (i + 1) (8 * n - k) = 8 * n - k := by omega
    have e2 : min i (8 * n - k) = 8 * n - k := by omega
    rw [e1, e2, if_neg (fun hh => h hh.2)]

end Go.Proofs.YtepfcaopboenpaaGreat.Fr
/- Numbers and texts as bytes, in plain numbers and lists: what is written, what is read; nothing of the program is walked here. -/
namespace Go.Proofs.YtepfcaopboenpaaGreat.Fr

/-- A number as bytes: seven bits each, the lowest first. -/
def varL (v : Nat) : List UInt8 := if v < 128 then [UInt8.ofNat v] else UInt8.ofNat (v % 128 + 128) :: varL (v / 128)
termination_by v
decreasing_by omega
/-- The number that bytes say. -/
def valL : List UInt8 → Nat
  | [] => 0
  | b :: t => b.toNat % 128 + 128 * valL t
/-- How many bytes the number has that a list begins with, i of them gone by; 0, if there is none. -/
def vsz : Nat → List UInt8 → Nat
  | _, [] => 0
  | i, b :: t => if 10 ≤ i then 0 else if 128 ≤ b.toNat then vsz (i + 1) t else if (0 < i ∧ b.toNat = 0) ∨ (i = 9 ∧ 1 < b.toNat) then 0 else i + 1
/-- What is read of bytes: the number and the rest. -/
def rdV (l : List UInt8) : Option (Nat × List UInt8) := if vsz 0 l = 0 then none else some (valL (l.take (vsz 0 l)), l.drop (vsz 0 l))
/-- A text as bytes, and what is read. -/
def textL (t : List UInt8) : List UInt8 := varL t.length ++ t
def rdT (l : List UInt8) : Option (List UInt8 × List UInt8) :=
  match rdV l with
  | none => none
  | some (n, r) => if n ≤ r.length then some (r.take n, r.drop n) else none

theorem varL_lo (v : Nat) (h : v < 128) : varL v = [UInt8.ofNat v] := by rw [varL, if_pos h]
theorem varL_hi (v : Nat) (h : 128 ≤ v) : varL v = UInt8.ofNat (v % 128 + 128) :: varL (v / 128) := by rw [varL, if_neg (by omega)]
theorem toNat_of (n : Nat) (h : n < 256) : (UInt8.ofNat n).toNat = n := by rw [UInt8.toNat_ofNat']; exact Nat.mod_eq_of_lt h
theorem varL_len (v : Nat) : 1 ≤ (varL v).length := by
  by_cases h : v < 128
  · rw [varL_lo v h]; simp
  · rw [varL_hi v (by omega)]; simp
theorem valL_varL (v : Nat) : valL (varL v) = v := by
  induction v using Nat.strongRecOn with
  | ind v ih =>
    by_cases h : v < 128
    · rw [varL_lo v h]; simp only [valL]; rw [toNat_of v (by omega)]; omega
    · rw [varL_hi v (by omega)]; simp only [valL]; rw [ih (v / 128) (by omega), toNat_of _ (by omega)]; omega
theorem pow_part (i : Nat) (h : i ≤ 8) : 2 ^ (64 - 7 * i) = 2 ^ (64 - 7 * (i + 1)) * 128 := by
  have e : 64 - 7 * i = 64 - 7 * (i + 1) + 7 := by omega
  rw [e, Nat.pow_add]
theorem pow_small (i : Nat) (h : 9 ≤ i) (h2 : i ≤ 9) : 2 ^ (64 - 7 * i) = 2 := by
  have e : i = 9 := by omega
  subst e; rfl
/-- What was written is told with its length. -/
theorem vsz_varL (v : Nat) (s : List UInt8) (i : Nat) (hi : i ≤ 9) (hv : v < 2 ^ (64 - 7 * i)) (h0 : 0 < i → 0 < v) : vsz i (varL v ++ s) = i + (varL v).length := by
  induction v using Nat.strongRecOn generalizing i with
  | ind v ih =>
    by_cases h : v < 128
    · rw [varL_lo v h]
      simp only [List.cons_append, List.nil_append, vsz]
      rw [toNat_of v (by omega), if_neg (by omega), if_neg (by omega), if_neg]
      · rfl
      · intro hh
        rcases hh with ⟨h1, h2⟩ | ⟨h1, h2⟩
        · have := h0 h1; omega
        · have := pow_small i (by omega) (by omega); omega
    · have hi8 : i ≤ 8 := by
        apply Decidable.byContradiction
        intro hh
        have := pow_small i (by omega) (by omega); omega
      have hp := pow_part i hi8
      have hq : v / 128 < 2 ^ (64 - 7 * (i + 1)) := by rw [hp] at hv; omega
      rw [varL_hi v (by omega)]
      simp only [List.cons_append, vsz, List.length_cons]
      rw [toNat_of _ (by omega), if_neg (by omega), if_pos (by omega), ih (v / 128) (by omega) (i + 1) (by omega) hq (fun _ => by omega)]
      omega
/-- What is told is a number as it is written. -/
theorem vsz_some (l : List UInt8) (i : Nat) (hi : i ≤ 10) (h : vsz i l ≠ 0) :
    ∃ m, vsz i l = i + m ∧ 1 ≤ m ∧ m ≤ l.length ∧ i + m ≤ 10 ∧ varL (valL (l.take m)) = l.take m ∧ valL (l.take m) < 2 ^ (64 - 7 * i) ∧ (0 < i → 0 < valL (l.take m)) := by
  induction l generalizing i with
  | nil => exact absurd rfl h
  | cons b t ih =>
    simp only [vsz] at h ⊢
    by_cases h10 : 10 ≤ i
    · rw [if_pos h10] at h; exact absurd rfl h
    · rw [if_neg h10] at h ⊢
      by_cases hb : 128 ≤ b.toNat
      · rw [if_pos hb] at h ⊢
        obtain ⟨m, e, h1, h2, h3, h4, h5, h6⟩ := ih (i + 1) (by omega) h
        have h7 := h6 (by omega)
        have hlt := byte_lt b
        have hp := pow_part i (by omega)
        refine ⟨m + 1, by omega, by omega, by simp; omega, by omega, ?_, ?_, ?_⟩
        · rw [List.take_succ_cons]
          simp only [valL]
          rw [varL_hi _ (by omega)]
          have e1 : (b.toNat % 128 + 128 * valL (t.take m)) % 128 + 128 = b.toNat := by omega
          have e2 : (b.toNat % 128 + 128 * valL (t.take m)) / 128 = valL (t.take m) := by omega
          rw [e1, e2, h4, UInt8.ofNat_toNat]
        · rw [List.take_succ_cons]; simp only [valL]; rw [hp]; omega
        · intro _; rw [List.take_succ_cons]; simp only [valL]; omega
      · rw [if_neg hb] at h ⊢
        by_cases hc : (0 < i ∧ b.toNat = 0) ∨ (i = 9 ∧ 1 < b.toNat)
        · rw [if_pos hc] at h; exact absurd rfl h
        · rw [if_neg hc]
          refine ⟨1, rfl, Nat.le_refl _, by simp, by omega, ?_, ?_, ?_⟩
          · rw [List.take_succ_cons, List.take_zero]
            simp only [valL]
            rw [varL_lo _ (by omega), show b.toNat % 128 + 128 * 0 = b.toNat by omega, UInt8.ofNat_toNat]
          · rw [List.take_succ_cons, List.take_zero]
            simp only [valL]
            by_cases h9 : i = 9
            · have := pow_small i (by omega) (by omega); omega
            · have hp : 2 ^ 7 ≤ 2 ^ (64 - 7 * i) := Nat.pow_le_pow_right (by omega) (by omega)
              omega
          · intro hi0
            rw [List.take_succ_cons, List.take_zero]
            simp only [valL]
            omega
theorem vsz_step (l : List UInt8) (k : Nat) (h : k < l.length) (hk : k < 10) (hb : 128 ≤ (l[k]).toNat) : vsz k (l.drop k) = vsz (k + 1) (l.drop (k + 1)) := by
  rw [List.drop_eq_getElem_cons h]
  simp only [vsz]
  rw [if_neg (by omega), if_pos hb]
theorem vsz_last (l : List UInt8) (k : Nat) (h : k < l.length) (hk : k < 10) (hb : (l[k]).toNat < 128) : vsz k (l.drop k) = if (0 < k ∧ (l[k]).toNat = 0) ∨ (k = 9 ∧ 1 < (l[k]).toNat) then 0 else k + 1 := by
  rw [List.drop_eq_getElem_cons h]
  simp only [vsz]
  rw [if_neg (by omega), if_neg (by omega)]
theorem vsz_end (l : List UInt8) (k : Nat) (h : l.length ≤ k ∨ 10 ≤ k) : vsz k (l.drop k) = 0 := by
  by_cases hl : l.length ≤ k
  · rw [List.drop_of_length_le hl]; rfl
  · rw [List.drop_eq_getElem_cons (by omega)]
    simp only [vsz]
    rw [if_pos (by omega)]

theorem rdV_varL (v : Nat) (s : List UInt8) (h : v < 18446744073709551616) : rdV (varL v ++ s) = some (v, s) := by
  have e := vsz_varL v s 0 (by omega) h (fun hh => by omega)
  have hl := varL_len v
  unfold rdV
  rw [e, Nat.zero_add, if_neg (by omega), List.take_left, List.drop_left, valL_varL]
theorem rdV_some {l : List UInt8} {v : Nat} {r : List UInt8} (h : rdV l = some (v, r)) : varL v ++ r = l ∧ v < 18446744073709551616 ∧ vsz 0 l ≠ 0 ∧ vsz 0 l ≤ l.length ∧ vsz 0 l ≤ 10 ∧ v = valL (l.take (vsz 0 l)) ∧ r = l.drop (vsz 0 l) := by
  unfold rdV at h
  by_cases hz : vsz 0 l = 0
  · rw [if_pos hz] at h; cases h
  · rw [if_neg hz] at h
    obtain ⟨m, e, h1, h2, h3, h4, h5, _⟩ := vsz_some l 0 (by omega) hz
    rw [e, Nat.zero_add] at h ⊢
    cases h
    exact ⟨by rw [h4, List.take_append_drop], h5, by omega, h2, by omega, rfl, rfl⟩
theorem rdV_none {l : List UInt8} (h : rdV l = none) : vsz 0 l = 0 := by
  unfold rdV at h
  by_cases hz : vsz 0 l = 0
  · exact hz
  · rw [if_neg hz] at h; cases h
/-- The reader that writes anew and compares reads the same. -/
theorem rd_again (l : List UInt8) (k : Nat) (hz : vsz 0 l = 0) : varL (valL (l.take (k + 1)) % 18446744073709551616) ≠ l.take (k + 1) := by
  intro h
  have e := rdV_varL (valL (l.take (k + 1)) % 18446744073709551616) (l.drop (k + 1)) (Nat.mod_lt _ (by omega))
  rw [h, List.take_append_drop] at e
  exact (rdV_some e).2.2.1 hz
theorem rd_again' (l : List UInt8) (hz : vsz 0 l ≠ 0) : varL (valL (l.take (vsz 0 l)) % 18446744073709551616) = l.take (vsz 0 l) ∧ valL (l.take (vsz 0 l)) % 18446744073709551616 = valL (l.take (vsz 0 l)) := by
  obtain ⟨m, e, h1, h2, h3, h4, h5, _⟩ := vsz_some l 0 (by omega) hz
  rw [e, Nat.zero_add]
  have e2 : valL (l.take m) % 18446744073709551616 = valL (l.take m) := Nat.mod_eq_of_lt h5
  exact ⟨by rw [e2, h4], e2⟩

theorem rdT_textL (t s : List UInt8) (h : t.length < 18446744073709551616) : rdT (textL t ++ s) = some (t, s) := by
  unfold rdT textL
  rw [List.append_assoc, rdV_varL _ _ h]
  simp
theorem rdT_some {l t r : List UInt8} (h : rdT l = some (t, r)) : textL t ++ r = l := by
  unfold rdT at h
  cases hv : rdV l with
  | none => rw [hv] at h; cases h
  | some p =>
    obtain ⟨n, q⟩ := p
    rw [hv] at h
    simp only at h
    by_cases hn : n ≤ q.length
    · rw [if_pos hn] at h
      cases h
      have e := (rdV_some hv).1
      unfold textL
      rw [List.length_take, Nat.min_eq_left hn, List.append_assoc, List.take_append_drop, e]
    · rw [if_neg hn] at h; cases h

theorem valL_snoc (l : List UInt8) (b : UInt8) : valL (l ++ [b]) = valL l + (b.toNat % 128) * 128 ^ l.length := by
  induction l with
  | nil => simp [valL]
  | cons c l ih =>
    simp only [List.cons_append, valL, ih, List.length_cons, Nat.pow_succ]
    rw [Nat.mul_add, ← Nat.mul_assoc, Nat.mul_comm 128 (b.toNat % 128), Nat.mul_assoc, Nat.mul_comm 128 (128 ^ l.length)]
    omega
theorem valL_lt (l : List UInt8) : valL l < 128 ^ l.length := by
  induction l with
  | nil => simp [valL]
  | cons c l ih => simp only [valL, List.length_cons, Nat.pow_succ]; omega

/-- Four bytes of a number. -/
def fixL (v : Nat) : List UInt8 := [UInt8.ofNat v, UInt8.ofNat (v / 256), UInt8.ofNat (v / 65536), UInt8.ofNat (v / 16777216)]
def unfix (a b c d : UInt8) : Nat := a.toNat + 256 * b.toNat + 65536 * c.toNat + 16777216 * d.toNat
theorem unfix_fixL (v : Nat) (h : v < 4294967296) : unfix (UInt8.ofNat v) (UInt8.ofNat (v / 256)) (UInt8.ofNat (v / 65536)) (UInt8.ofNat (v / 16777216)) = v := by
  unfold unfix
  simp only [UInt8.toNat_ofNat']
  omega

end Go.Proofs.YtepfcaopboenpaaGreat.Fr
