/- The sum of bytes, and numbers and texts as bytes, in plain numbers and lists: nothing of the program is walked here. -/
import Derived.WalkKit
namespace Go.Proofs.Ytodfcbpimglhdaa.Fr

/-- One bit of the sum. -/
def cStep (c : Nat) : Nat := if c % 2 = 1 then c / 2 ^^^ 3988292384 else c / 2
def cIter : Nat → Nat → Nat
  | 0, c => c
  | n + 1, c => cIter n (cStep c)
/-- The sum with one byte more, and with a list of bytes more. -/
def addB (c : Nat) (b : UInt8) : Nat := cIter 8 (c ^^^ b.toNat)
def crcRaw (c : Nat) (l : List UInt8) : Nat := l.foldl addB c
def crcL (l : List UInt8) : Nat := crcRaw 4294967295 l ^^^ 4294967295

theorem cStep_xor (a b : Nat) : cStep (a ^^^ b) = cStep a ^^^ cStep b := by
  have hd : (a ^^^ b) / 2 = a / 2 ^^^ b / 2 := Nat.xor_div_two
  have hm : (a ^^^ b) % 2 = (a % 2) ^^^ (b % 2) := Nat.xor_mod_two_pow (n := 1)
  unfold cStep
  rw [hd, hm]
  rcases Nat.mod_two_eq_zero_or_one a with ha | ha <;> rcases Nat.mod_two_eq_zero_or_one b with hb | hb <;> rw [ha, hb] <;> simp
  · rw [Nat.xor_assoc]
  · rw [Nat.xor_assoc, Nat.xor_comm (b / 2), ← Nat.xor_assoc]
  · apply Nat.eq_of_testBit_eq
    intro i
    simp only [Nat.testBit_xor]
    cases (a / 2).testBit i <;> cases (b / 2).testBit i <;> cases Nat.testBit 3988292384 i <;> rfl
theorem cIter_xor (n a b : Nat) : cIter n (a ^^^ b) = cIter n a ^^^ cIter n b := by
  induction n generalizing a b with
  | zero => rfl
  | succ n ih => unfold cIter; rw [cStep_xor, ih]
theorem cIter_add (m n c : Nat) : cIter (m + n) c = cIter n (cIter m c) := by
  induction m generalizing c with
  | zero => rw [Nat.zero_add]; rfl
  | succ m ih =>
    have e : m + 1 + n = m + n + 1 := by omega
    rw [e]; show cIter (m + n) (cStep c) = cIter n (cIter m (cStep c)); exact ih _
theorem cIter_succ' (n c : Nat) : cIter (n + 1) c = cStep (cIter n c) := cIter_add n 1 c
theorem cStep_lt (c : Nat) (h : c < 4294967296) : cStep c < 4294967296 := by
  unfold cStep
  split
  · have : c / 2 ^^^ 3988292384 < 2 ^ 32 := Nat.xor_lt_two_pow (by omega) (by omega)
    omega
  · omega
theorem cIter_lt (n c : Nat) (h : c < 4294967296) : cIter n c < 4294967296 := by
  induction n generalizing c with
  | zero => exact h
  | succ n ih => exact ih _ (cStep_lt c h)
theorem xor_lt32 (a b : Nat) (ha : a < 4294967296) (hb : b < 4294967296) : a ^^^ b < 4294967296 := by
  have : a ^^^ b < 2 ^ 32 := Nat.xor_lt_two_pow (by omega) (by omega)
  omega
theorem byte_lt (b : UInt8) : b.toNat < 256 := b.toNat_lt
theorem addB_lt (c : Nat) (b : UInt8) (h : c < 4294967296) : addB c b < 4294967296 := cIter_lt _ _ (xor_lt32 _ _ h (by have := byte_lt b; omega))
theorem crcRaw_lt (l : List UInt8) (c : Nat) (h : c < 4294967296) : crcRaw c l < 4294967296 := by
  induction l generalizing c with
  | nil => exact h
  | cons b l ih => exact ih _ (addB_lt c b h)
theorem crcL_lt (l : List UInt8) : crcL l < 4294967296 := xor_lt32 _ _ (crcRaw_lt l _ (by omega)) (by omega)
theorem crcRaw_append (c : Nat) (l m : List UInt8) : crcRaw c (l ++ m) = crcRaw (crcRaw c l) m := List.foldl_append ..
theorem crcRaw_snoc (c : Nat) (l : List UInt8) (b : UInt8) : crcRaw c (l ++ [b]) = addB (crcRaw c l) b := crcRaw_append c l [b]

theorem cStep_even (a : Nat) : cStep (2 * a) = a := by unfold cStep; rw [if_neg (by omega)]; omega
theorem cIter_shift (k a : Nat) : cIter k (a * 2 ^ k) = a := by
  induction k generalizing a with
  | zero => simp [cIter]
  | succ k ih =>
    have e : a * 2 ^ (k + 1) = 2 * (a * 2 ^ k) := by rw [Nat.pow_succ, ← Nat.mul_assoc, Nat.mul_comm 2]
    unfold cIter; rw [e, cStep_even, ih]
theorem cStep_zero (c : Nat) (h : c < 4294967296) (hz : cStep c = 0) : c = 0 := by
  unfold cStep at hz
  split at hz
  · have h2 := congrArg (· ^^^ 3988292384) hz
    simp only [Nat.xor_assoc, Nat.xor_self, Nat.xor_zero, Nat.zero_xor] at h2
    omega
  · omega
theorem cIter_zero (n c : Nat) (h : c < 4294967296) (hz : cIter n c = 0) : c = 0 := by
  induction n generalizing c with
  | zero => exact hz
  | succ n ih => exact cStep_zero c h (ih _ (cStep_lt c h) hz)

/-- Bytes as one number, the first the lowest. -/
def leN : List UInt8 → Nat
  | [] => 0
  | b :: l => b.toNat + 256 * leN l
theorem low_xor (b x : Nat) (hb : b < 256) : b + 256 * x = b ^^^ 256 * x := by
  have e : b + 256 * x = 2 ^ 8 * x + b := by omega
  have e2 : 256 * x = 2 ^ 8 * x := by omega
  rw [e, e2]
  apply Nat.eq_of_testBit_eq
  intro i
  rw [Nat.testBit_two_pow_mul_add _ (by omega), Nat.testBit_xor, Nat.testBit_two_pow_mul]
  by_cases h : i < 8
  · rw [if_pos h, decide_eq_false (by omega)]; simp
  · rw [if_neg h, decide_eq_true (by omega), Nat.testBit_lt_two_pow (x := b) (i := i)]
    · simp
    · exact Nat.lt_of_lt_of_le (show b < 2 ^ 8 by omega) (Nat.pow_le_pow_right (by omega) (by omega))
theorem mul_xor (k x y : Nat) : (x ^^^ y) * 2 ^ k = x * 2 ^ k ^^^ y * 2 ^ k := by
  rw [← Nat.shiftLeft_eq, ← Nat.shiftLeft_eq, ← Nat.shiftLeft_eq, Nat.shiftLeft_xor_distrib]
theorem crcRaw_le (l : List UInt8) (c : Nat) : crcRaw c l = cIter (8 * l.length) (c ^^^ leN l) := by
  induction l generalizing c with
  | nil => simp [crcRaw, leN, cIter]
  | cons b l ih =>
    have e : 8 * (b :: l).length = 8 + 8 * l.length := by simp; omega
    have e2 : c ^^^ leN (b :: l) = (c ^^^ b.toNat) ^^^ leN l * 2 ^ 8 := by
      show c ^^^ (b.toNat + 256 * leN l) = _
      rw [low_xor _ _ (byte_lt b), Nat.xor_assoc, Nat.mul_comm 256]
    rw [e, cIter_add, e2, cIter_xor 8, cIter_shift]
    exact ih (addB c b)
theorem leN_inj (l m : List UInt8) (hl : l.length = m.length) (h : leN l = leN m) : l = m := by
  induction l generalizing m with
  | nil => cases m with
    | nil => rfl
    | cons => simp at hl
  | cons b l ih =>
    cases m with
    | nil => simp at hl
    | cons c m =>
      simp only [leN] at h
      have h1 := byte_lt b
      have h2 := byte_lt c
      have hb : b.toNat = c.toNat := by omega
      rw [UInt8.toNat_inj.1 hb, ih m (by simpa using hl) (by omega)]
theorem leN_set (l : List UInt8) (i : Nat) (h : i < l.length) (m : UInt8) : leN (l.set i (l[i] ^^^ m)) = leN l ^^^ m.toNat * 2 ^ (8 * i) := by
  induction l generalizing i with
  | nil => simp at h
  | cons b l ih =>
    cases i with
    | zero =>
      show (b ^^^ m).toNat + 256 * leN l = (b.toNat + 256 * leN l) ^^^ _
      have h1 := byte_lt (b ^^^ m)
      rw [low_xor _ _ (byte_lt b), low_xor _ _ h1, UInt8.toNat_xor]
      simp only [Nat.mul_zero, Nat.pow_zero, Nat.mul_one]
      rw [Nat.xor_assoc, Nat.xor_assoc, Nat.xor_comm m.toNat]
    | succ i =>
      have hi : i < l.length := by simpa using h
      show b.toNat + 256 * leN (l.set i (l[i] ^^^ m)) = (b.toNat + 256 * leN l) ^^^ _
      have e : m.toNat * 2 ^ (8 * (i + 1)) = m.toNat * 2 ^ (8 * i) * 2 ^ 8 := by rw [Nat.mul_assoc, ← Nat.pow_add]; congr 2
      rw [ih i hi, e, low_xor _ _ (byte_lt b), low_xor _ _ (byte_lt b), Nat.mul_comm 256, Nat.mul_comm 256, show (256 : Nat) = 2 ^ 8 from rfl, mul_xor, Nat.xor_assoc]

/-- Two lists of one length that differ by up to 32 bits beside one another, and have one sum, are one. -/
theorem crc_burst (l m : List UInt8) (hl : m.length = l.length) (k B : Nat) (hk : k ≤ 8 * l.length) (hB : B < 4294967296) (he : leN m = leN l ^^^ B * 2 ^ k) (hc : crcL m = crcL l) : m = l := by
  have h1 : crcRaw 4294967295 m = crcRaw 4294967295 l := by
    have := congrArg (· ^^^ 4294967295) hc
    simpa [crcL, Nat.xor_assoc] using this
  rw [crcRaw_le, crcRaw_le, hl, he, ← Nat.xor_assoc, cIter_xor] at h1
  have h2 : cIter (8 * l.length) (B * 2 ^ k) = 0 := by
    have := congrArg (cIter (8 * l.length) (4294967295 ^^^ leN l) ^^^ ·) h1
    simpa [← Nat.xor_assoc] using this
  have e : 8 * l.length = k + (8 * l.length - k) := by omega
  rw [e, cIter_add, cIter_shift] at h2
  have hz := cIter_zero _ _ hB h2
  subst hz
  apply leN_inj m l hl
  rw [he]; simp

/-- Three lists of one length laid over one another. -/
theorem leN_xor (l m : List UInt8) (hl : l.length = m.length) : leN (List.zipWith (· ^^^ ·) l m) = leN l ^^^ leN m := by
  induction l generalizing m with
  | nil => cases m with
    | nil => rfl
    | cons => simp at hl
  | cons b l ih =>
    cases m with
    | nil => simp at hl
    | cons c m =>
      show (b ^^^ c).toNat + 256 * leN (List.zipWith (· ^^^ ·) l m) = (b.toNat + 256 * leN l) ^^^ (c.toNat + 256 * leN m)
      rw [ih m (by simpa using hl), low_xor _ _ (byte_lt _), low_xor _ _ (byte_lt b), low_xor _ _ (byte_lt c), UInt8.toNat_xor, Nat.mul_comm 256, show (256 : Nat) = 2 ^ 8 from rfl, mul_xor, Nat.mul_comm (2 ^ 8) (leN l), Nat.mul_comm (2 ^ 8) (leN m)]
      ac_rfl
theorem crc_linear (a b c : List UInt8) (hb : a.length = b.length) (hc : a.length = c.length) :
    crcL (List.zipWith (· ^^^ ·) (List.zipWith (· ^^^ ·) a b) c) = crcL a ^^^ crcL b ^^^ crcL c := by
  have h1 : (List.zipWith (· ^^^ ·) a b).length = a.length := by simp; omega
  have h2 : (List.zipWith (· ^^^ ·) (List.zipWith (· ^^^ ·) a b) c).length = a.length := by simp; omega
  unfold crcL
  rw [crcRaw_le, crcRaw_le, crcRaw_le, crcRaw_le, h2, leN_xor _ _ (by omega), leN_xor _ _ hb, ← hb, ← hc]
  simp only [cIter_xor]
  generalize cIter (8 * a.length) 4294967295 = F
  generalize cIter (8 * a.length) (leN a) = A
  generalize cIter (8 * a.length) (leN b) = B
  generalize cIter (8 * a.length) (leN c) = C
  generalize 4294967295 = E
  apply Nat.eq_of_testBit_eq
  intro i
  simp only [Nat.testBit_xor]
  cases F.testBit i <;> cases A.testBit i <;> cases B.testBit i <;> cases C.testBit i <;> cases E.testBit i <;> rfl

/-- What WireFlips turns: after i of the 32 bits. -/
theorem flip_step (n k i bits : Nat) (hk : k < 8 * n) :
    bits % 2 ^ min (i + 1) (8 * n - k) * 2 ^ k = if bits / 2 ^ i % 2 = 1 ∧ k + i < 8 * n then bits % 2 ^ min i (8 * n - k) * 2 ^ k ^^^ 2 ^ (k + i) else bits % 2 ^ min i (8 * n - k) * 2 ^ k := by
  by_cases h : k + i < 8 * n
  · have e1 : min (i + 1) (8 * n - k) = i + 1 := by omega
    have e2 : min i (8 * n - k) = i := by omega
    have hl : bits % 2 ^ i < 2 ^ i := Nat.mod_lt _ (Nat.two_pow_pos i)
    have e3 : bits % 2 ^ (i + 1) = bits % 2 ^ i + 2 ^ i * (bits / 2 ^ i % 2) := Nat.mod_pow_succ
    rw [e1, e2, e3]
    rcases Nat.mod_two_eq_zero_or_one (bits / 2 ^ i) with hb | hb
    · rw [hb, if_neg (by omega)]; simp
    · rw [hb, if_pos ⟨rfl, h⟩, Nat.mul_one, Nat.pow_add, Nat.mul_comm (2 ^ k) (2 ^ i), ← mul_xor]
      congr 1
      apply Nat.eq_of_testBit_eq
      intro j
      have e4 : bits % 2 ^ i + 2 ^ i = 2 ^ i * 1 + bits % 2 ^ i := by omega
      rw [e4, Nat.testBit_two_pow_mul_add _ hl, Nat.testBit_xor, Nat.testBit_two_pow]
      by_cases hj : j < i
      · rw [if_pos hj, decide_eq_false (by omega)]; simp
      · rw [if_neg hj, Nat.testBit_lt_two_pow (x := bits % 2 ^ i) (i := j) (Nat.lt_of_lt_of_le hl (Nat.pow_le_pow_right (by omega) (by omega)))]
        by_cases hij : i = j
        · subst hij; simp
        · rw [decide_eq_false hij]
          have : Nat.testBit 1 (j - i) = false := by
            rw [show (1 : Nat) = 2 ^ 0 from rfl, Nat.testBit_two_pow]; exact decide_eq_false (by omega)
          rw [this]; rfl
  · have e1 : min (i + 1) (8 * n - k) = 8 * n - k := by omega
    have e2 : min i (8 * n - k) = 8 * n - k := by omega
    rw [e1, e2, if_neg (fun hh => h hh.2)]

end Go.Proofs.Ytodfcbpimglhdaa.Fr
