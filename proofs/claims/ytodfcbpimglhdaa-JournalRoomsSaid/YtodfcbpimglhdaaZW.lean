/- The sum of bytes, and numbers and texts as bytes, in plain numbers and lists: nothing of the program is walked here. -/
import Derived.WalkKit
import Derived.Test.YtodfcbpimglhdaaRows
import Derived.WalkSpells
import Derived.WalkLawsBesides
import Derived.Lib.Hide
import Derived.Laws.BitsAllLaws
import Derived.Laws.BytesArg
import Derived.Deep.QuietTactic
import Derived.BigQuiet

namespace Go.Proofs.Ytodfcbpimglhdaa.Fr

/-- One bit of the sum. -/
def cStep (c : Nat) : Nat := if c % 2 = 1 then c / 2 ^^^ 3988292384 else c / 2
def cIter : Nat → Nat → Nat
  | 0, c => c
  | n + 1, c => cIter n (cStep c)
/-- The sum with one byte more, and with a list of bytes more. -/
def addB (c : Nat) (b : UInt8) : Nat := cIter 8 (c ^^^ b.toNat)
def crcRaw (c : Nat) (l : List UInt8) : Nat := l.foldl addB c
def crcL (l : List UInt8) : Nat := crcRaw 4294967295 l ^^^ 4294967295

theorem cStep_xor (a b : Nat) : cStep (a ^^^ b) = cStep a ^^^ cStep b := by
  have hd : (a ^^^ b) / 2 = a / 2 ^^^ b / 2 := Nat.xor_div_two
  have hm : (a ^^^ b) % 2 = (a % 2) ^^^ (b % 2) := Nat.xor_mod_two_pow (n := 1)
  unfold cStep
  rw [hd, hm]
  rcases Nat.mod_two_eq_zero_or_one a with ha | ha <;> rcases Nat.mod_two_eq_zero_or_one b with hb | hb <;> rw [ha, hb] <;> simp
  · rw [Nat.xor_assoc]
  · rw [Nat.xor_assoc, Nat.xor_comm (b / 2), ← Nat.xor_assoc]
  · apply Nat.eq_of_testBit_eq
    intro i
    simp only [Nat.testBit_xor]
    cases (a / 2).testBit i <;> cases (b / 2).testBit i <;> cases Nat.testBit 3988292384 i <;> rfl
theorem cIter_xor (n a b : Nat) : cIter n (a ^^^ b) = cIter n a ^^^ cIter n b := by
  induction n generalizing a b with
  | zero => rfl
  | succ n ih => unfold cIter; rw [cStep_xor, ih]
theorem cIter_add (m n c : Nat) : cIter (m + n) c = cIter n (cIter m c) := by
  induction m generalizing c with
  | zero => rw [Nat.zero_add]; rfl
  | succ m ih =>
    have e : m + 1 + n = m + n + 1 := by omega
    rw [e]; show cIter (m + n) (cStep c) = cIter n (cIter m (cStep c)); exact ih _
theorem cIter_succ' (n c : Nat) : cIter (n + 1) c = cStep (cIter n c) := cIter_add n 1 c
theorem cStep_lt (c : Nat) (h : c < 4294967296) : cStep c < 4294967296 := by
  unfold cStep
  split
  · have : c / 2 ^^^ 3988292384 < 2 ^ 32 := Nat.xor_lt_two_pow (by omega) (by omega)
    omega
  · omega
theorem cIter_lt (n c : Nat) (h : c < 4294967296) : cIter n c < 4294967296 := by
  induction n generalizing c with
  | zero => exact h
  | succ n ih => exact ih _ (cStep_lt c h)
theorem xor_lt32 (a b : Nat) (ha : a < 4294967296) (hb : b < 4294967296) : a ^^^ b < 4294967296 := by
  have : a ^^^ b < 2 ^ 32 := Nat.xor_lt_two_pow (by omega) (by omega)
  omega
theorem byte_lt (b : UInt8) : b.toNat < 256 := b.toNat_lt
theorem addB_lt (c : Nat) (b : UInt8) (h : c < 4294967296) : addB c b < 4294967296 := cIter_lt _ _ (xor_lt32 _ _ h (by have := byte_lt b; omega))
theorem crcRaw_lt (l : List UInt8) (c : Nat) (h : c < 4294967296) : crcRaw c l < 4294967296 := by
  induction l generalizing c with
  | nil => exact h
  | cons b l ih => exact ih _ (addB_lt c b h)
theorem crcL_lt (l : List UInt8) : crcL l < 4294967296 := xor_lt32 _ _ (crcRaw_lt l _ (by omega)) (by omega)
theorem crcRaw_append (c : Nat) (l m : List UInt8) : crcRaw c (l ++ m) = crcRaw (crcRaw c l) m := List.foldl_append ..
theorem crcRaw_snoc (c : Nat) (l : List UInt8) (b : UInt8) : crcRaw c (l ++ [b]) = addB (crcRaw c l) b := crcRaw_append c l [b]

theorem cStep_even (a : Nat) : cStep (2 * a) = a := by unfold cStep; rw [if_neg (by omega)]; omega
theorem cIter_shift (k a : Nat) : cIter k (a * 2 ^ k) = a := by
  induction k generalizing a with
  | zero => simp [cIter]
  | succ k ih =>
    have e : a * 2 ^ (k + 1) = 2 * (a * 2 ^ k) := by rw [Nat.pow_succ, ← Nat.mul_assoc, Nat.mul_comm 2]
    unfold cIter; rw [e, cStep_even, ih]
theorem cStep_zero (c : Nat) (h : c < 4294967296) (hz : cStep c = 0) : c = 0 := by
  unfold cStep at hz
  split at hz
  · have h2 := congrArg (· ^^^ 3988292384) hz
    simp only [Nat.xor_assoc, Nat.xor_self, Nat.xor_zero, Nat.zero_xor] at h2
    omega
  · omega
theorem cIter_zero (n c : Nat) (h : c < 4294967296) (hz : cIter n c = 0) : c = 0 := by
  induction n generalizing c with
  | zero => exact hz
  | succ n ih => exact cStep_zero c h (ih _ (cStep_lt c h) hz)

/-- Bytes as one number, the first the lowest. -/
def leN : List UInt8 → Nat
  | [] => 0
  | b :: l => b.toNat + 256 * leN l
theorem low_xor (b x : Nat) (hb : b < 256) : b + 256 * x = b ^^^ 256 * x := by
  have e : b + 256 * x = 2 ^ 8 * x + b := by omega
  have e2 : 256 * x = 2 ^ 8 * x := by omega
  rw [e, e2]
  apply Nat.eq_of_testBit_eq
  intro i
  rw [Nat.testBit_two_pow_mul_add _ (by omega), Nat.testBit_xor, Nat.testBit_two_pow_mul]
  by_cases h : i < 8
  · rw [if_pos h, decide_eq_false (by omega)]; simp
  · rw [if_neg h, decide_eq_true (by omega), Nat.testBit_lt_two_pow (x := b) (i := i)]
    · simp
    · exact Nat.lt_of_lt_of_le (show b < 2 ^ 8 by omega) (Nat.pow_le_pow_right (by omega) (by omega))
theorem mul_xor (k x y : Nat) : (x ^^^ y) * 2 ^ k = x * 2 ^ k ^^^ y * 2 ^ k := by
  rw [← Nat.shiftLeft_eq, ← Nat.shiftLeft_eq, ← Nat.shiftLeft_eq, Nat.shiftLeft_xor_distrib]
theorem crcRaw_le (l : List UInt8) (c : Nat) : crcRaw c l = cIter (8 * l.length) (c ^^^ leN l) := by
  induction l generalizing c with
  | nil => simp [crcRaw, leN, cIter]
  | cons b l ih =>
    have e : 8 * (b :: l).length = 8 + 8 * l.length := by simp; omega
    have e2 : c ^^^ leN (b :: l) = (c ^^^ b.toNat) ^^^ leN l * 2 ^ 8 := by
      show c ^^^ (b.toNat + 256 * leN l) = _
      rw [low_xor _ _ (byte_lt b), Nat.xor_assoc, Nat.mul_comm 256]
    rw [e, cIter_add, e2, cIter_xor 8, cIter_shift]
    exact ih (addB c b)
theorem leN_inj (l m : List UInt8) (hl : l.length = m.length) (h : leN l = leN m) : l = m := by
  induction l generalizing m with
  | nil => cases m with
    | nil => rfl
    | cons => simp at hl
  | cons b l ih =>
    cases m with
    | nil => simp at hl
    | cons c m =>
      simp only [leN] at h
      have h1 := byte_lt b
      have h2 := byte_lt c
      have hb : b.toNat = c.toNat := by omega
      rw [UInt8.toNat_inj.1 hb, ih m (by simpa using hl) (by omega)]
theorem leN_set (l : List UInt8) (i : Nat) (h : i < l.length) (m : UInt8) : leN (l.set i (l[i] ^^^ m)) = leN l ^^^ m.toNat * 2 ^ (8 * i) := by
  induction l generalizing i with
  | nil => simp at h
  | cons b l ih =>
    cases i with
    | zero =>
      show (b ^^^ m).toNat + 256 * leN l = (b.toNat + 256 * leN l) ^^^ _
      have h1 := byte_lt (b ^^^ m)
      rw [low_xor _ _ (byte_lt b), low_xor _ _ h1, UInt8.toNat_xor]
      simp only [Nat.mul_zero, Nat.pow_zero, Nat.mul_one]
      rw [Nat.xor_assoc, Nat.xor_assoc, Nat.xor_comm m.toNat]
    | succ i =>
      have hi : i < l.length := by simpa using h
      show b.toNat + 256 * leN (l.set i (l[i] ^^^ m)) = (b.toNat + 256 * leN l) ^^^ _
      have e : m.toNat * 2 ^ (8 * (i + 1)) = m.toNat * 2 ^ (8 * i) * 2 ^ 8 := by rw [Nat.mul_assoc, ← Nat.pow_add]; congr 2
      rw [ih i hi, e, low_xor _ _ (byte_lt b), low_xor _ _ (byte_lt b), Nat.mul_comm 256, Nat.mul_comm 256, show (256 : Nat) = 2 ^ 8 from rfl, mul_xor, Nat.xor_assoc]

/-- Two lists of one length that differ by up to 32 bits beside one another, and have one sum, are one. -/
theorem crc_burst (l m : List UInt8) (hl : m.length = l.length) (k B : Nat) (hk : k ≤ 8 * l.length) (hB : B < 4294967296) (he : leN m = leN l ^^^ B * 2 ^ k) (hc : crcL m = crcL l) : m = l := by
  have h1 : crcRaw 4294967295 m = crcRaw 4294967295 l := by
    have := congrArg (· ^^^ 4294967295) hc
    simpa [crcL, Nat.xor_assoc] using this
  rw [crcRaw_le, crcRaw_le, hl, he, ← Nat.xor_assoc, cIter_xor] at h1
  have h2 : cIter (8 * l.length) (B * 2 ^ k) = 0 := by
    have := congrArg (cIter (8 * l.length) (4294967295 ^^^ leN l) ^^^ ·) h1
    simpa [← Nat.xor_assoc] using this
  have e : 8 * l.length = k + (8 * l.length - k) := by omega
  rw [e, cIter_add, cIter_shift] at h2
  have hz := cIter_zero _ _ hB h2
  subst hz
  apply leN_inj m l hl
  rw [he]; simp

/-- Three lists of one length laid over one another. -/
theorem leN_xor (l m : List UInt8) (hl : l.length = m.length) : leN (List.zipWith (· ^^^ ·) l m) = leN l ^^^ leN m := by
  induction l generalizing m with
  | nil => cases m with
    | nil => rfl
    | cons => simp at hl
  | cons b l ih =>
    cases m with
    | nil => simp at hl
    | cons c m =>
      show (b ^^^ c).toNat + 256 * leN (List.zipWith (· ^^^ ·) l m) = (b.toNat + 256 * leN l) ^^^ (c.toNat + 256 * leN m)
      rw [ih m (by simpa using hl), low_xor _ _ (byte_lt _), low_xor _ _ (byte_lt b), low_xor _ _ (byte_lt c), UInt8.toNat_xor, Nat.mul_comm 256, show (256 : Nat) = 2 ^ 8 from rfl, mul_xor, Nat.mul_comm (2 ^ 8) (leN l), Nat.mul_comm (2 ^ 8) (leN m)]
      ac_rfl
theorem crc_linear (a b c : List UInt8) (hb : a.length = b.length) (hc : a.length = c.length) :
    crcL (List.zipWith (· ^^^ ·) (List.zipWith (· ^^^ ·) a b) c) = crcL a ^^^ crcL b ^^^ crcL c := by
  have h1 : (List.zipWith (· ^^^ ·) a b).length = a.length := by simp; omega
  have h2 : (List.zipWith (· ^^^ ·) (List.zipWith (· ^^^ ·) a b) c).length = a.length := by simp; omega
  unfold crcL
  rw [crcRaw_le, crcRaw_le, crcRaw_le, crcRaw_le, h2, leN_xor _ _ (by omega), leN_xor _ _ hb, ← hb, ← hc]
  simp only [cIter_xor]
  generalize cIter (8 * a.length) 4294967295 = F
  generalize cIter (8 * a.length) (leN a) = A
  generalize cIter (8 * a.length) (leN b) = B
  generalize cIter (8 * a.length) (leN c) = C
  generalize 4294967295 = E
  apply Nat.eq_of_testBit_eq
  intro i
  simp only [Nat.testBit_xor]
  cases F.testBit i <;> cases A.testBit i <;> cases B.testBit i <;> cases C.testBit i <;> cases E.testBit i <;> rfl

/-- What WireFlips turns: after i of the 32 bits. -/
theorem flip_step (n k i bits : Nat) (hk : k < 8 * n) :
    bits % 2 ^ min (i + 1) (8 * n - k) * 2 ^ k = if bits / 2 ^ i % 2 = 1 ∧ k + i < 8 * n then bits % 2 ^ min i (8 * n - k) * 2 ^ k ^^^ 2 ^ (k + i) else bits % 2 ^ min i (8 * n - k) * 2 ^ k := by
  by_cases h : k + i < 8 * n
  · have e1 : min (i + 1) (8 * n - k) = i + 1 := by omega
    have e2 : min i (8 * n - k) = i := by omega
    have hl : bits % 2 ^ i < 2 ^ i := Nat.mod_lt _ (Nat.two_pow_pos i)
    have e3 : bits % 2 ^ (i + 1) = bits % 2 ^ i + 2 ^ i * (bits / 2 ^ i % 2) := Nat.mod_pow_succ
    rw [e1, e2, e3]
    rcases Nat.mod_two_eq_zero_or_one (bits / 2 ^ i) with hb | hb
    · rw [hb, if_neg (by omega)]; simp
    · rw [hb, if_pos ⟨rfl, h⟩, Nat.mul_one, Nat.pow_add, Nat.mul_comm (2 ^ k) (2 ^ i), ← mul_xor]
      congr 1
      apply Nat.eq_of_testBit_eq
      intro j
      have e4 : bits % 2 ^ i + 2 ^ i = 2 ^ i * 1 + bits % 2 ^ i := by omega
      rw [e4, Nat.testBit_two_pow_mul_add _ hl, Nat.testBit_xor, Nat.testBit_two_pow]
      by_cases hj : j < i
      · rw [if_pos hj, decide_eq_false (by omega)]; simp
      · rw [if_neg hj, Nat.testBit_lt_two_pow (x := bits % 2 ^ i) (i := j) (Nat.lt_of_lt_of_le hl (Nat.pow_le_pow_right (by omega) (by omega)))]
        by_cases hij : i = j
        · subst hij; simp
        · rw [decide_eq_false hij]
          have : Nat.testBit 1 (j - i) = false := by
            rw [show (1 : Nat) = 2 ^ 0 from rfl, Nat.testBit_two_pow]; exact decide_eq_false (by omega)
          rw [this]; rfl
  · have e1 : min (i + 1) (8 * n - k) = 8 * n - k := by omega
    have e2 : min i (8 * n - k) = 8 * n - k := by omega
    rw [e1, e2, if_neg (fun hh => h hh.2)]

end Go.Proofs.Ytodfcbpimglhdaa.Fr
/- The sum of bytes: what addByte and Crc answer, for any byte and any texts; nothing that was there is changed. -/
namespace Go.Proofs.Ytodfcbpimglhdaa.Fr
open Go.RowKit

theorem odd_and (x : Nat) (h : x < 4294967296) : bits .and .u32 (x : Int) 1 = ((x % 2 : Nat) : Int) := by
  rw [show (1 : Int) = ((1 : Nat) : Int) from rfl, u32_and_nat x 1 h (by omega), nat_mask1]

theorem xor_u32 (a b : Nat) (ha : a < 4294967296) (hb : b < 4294967296) : bits .xor .u32 (a : Int) (b : Int) = ((a ^^^ b : Nat) : Int) := u32_xor_nat a b ha hb

theorem half_xor (x : Nat) (h : x < 4294967296) : bits .xor .u32 ((x : Int) / 2) 3988292384 = ((x / 2 ^^^ 3988292384 : Nat) : Int) := by
  rw [show (x : Int) / 2 = ((x / 2 : Nat) : Int) by omega, show (3988292384 : Int) = ((3988292384 : Nat) : Int) from rfl, u32_xor_nat _ _ (by omega) (by omega)]
theorem ret_u32 {k : IntKind} {a b : Int} (h : a = b) : Value.int k a = .int k b := by rw [h]

set_option maxRecDepth 100000 in
set_option maxHeartbeats 1000000 in
theorem addByte_any (c : Nat) (b : UInt8) (w : World) (hc : c < 4294967296) :
    Calls Try.prog 102 #[.int .u32 (c : Int), .int .u8 (b.toNat : Int)] w fun e w' => e = .returned (.int .u32 ((addB c b : Nat) : Int)) ∧ w = w' := by
  have hb := byte_lt b
  have HX := Lib.hid (xor_u32 c b.toNat hc (by omega))
  have HL := Lib.hid (xor_lt32 c b.toNat hc (by omega))
  go_enter Try.func102, Try.ntmps102
  go_wp2
  go_loop [0, 10] (fun s i => ∃ k : Nat, k ≤ 8 ∧ i = .int .i64 k ∧ s = .int .u32 ((cIter k (c ^^^ b.toNat) : Nat) : Int)) (fun _ i => 8 - (intOf i).toNat)
  case atStart => exact ⟨0, Nat.zero_le _, rfl, ret_u32 HX.out⟩
  case round =>
    obtain ⟨k, hk, rfl, rfl⟩ := hrel
    have hxl := cIter_lt k _ HL.out
    obtain ⟨x, hx⟩ : ∃ x, cIter k (c ^^^ b.toNat) = x := ⟨_, rfl⟩
    have HS : Hid (cIter (k + 1) (c ^^^ b.toNat) = cStep x) := by show _ = _; rw [cIter_succ', hx]
    rw [hx] at hxl ⊢
    have HXX := Lib.hid hx; clear hx
    by_cases hlt : k < 8
    · by_cases ho : x % 2 = 1
      · have hand : bits .and .u32 (x : Int) 1 = 1 := by rw [odd_and x hxl, ho]; rfl
        have HF : Hid (bits .xor .u32 ((x : Int) / 2) 3988292384 = ((cStep x : Nat) : Int)) := by show _ = _; rw [half_xor x hxl]; unfold cStep; rw [if_pos ho]
        clear ho
        go_wp2
        go_round
        case rel => exact ⟨k + 1, by omega, by go_num, by rw [HS.out]; exact ret_u32 HF.out⟩
        case measure => simp [intOf]; omega
      · have hand : bits .and .u32 (x : Int) 1 = 0 := by rw [odd_and x hxl, show x % 2 = 0 by omega]; rfl
        have HF : Hid (((x : Int) / 2) = ((cStep x : Nat) : Int)) := by show _ = _; unfold cStep; rw [if_neg ho]; omega
        clear ho
        go_wp2
        go_round
        case rel => exact ⟨k + 1, by omega, by go_num, by rw [HS.out]; exact ret_u32 HF.out⟩
        case measure => simp [intOf]; omega
    · have hk8 : k = 8 := by omega
      subst hk8
      go_wp2
      go_ret
      exact ⟨by rw [← HXX.out]; rfl, rfl⟩

/-- A slice of texts: nil, or so many cells. -/
def Strs (w : World) (v : Value) (L : List ByteArray) : Prop := (v = .slice none 0 0 ∧ L = []) ∨ ∃ b off c, v = .slice (some ⟨b, off, none⟩) L.length c ∧ b < w.heap.size ∧ ∀ j (h : j < L.length), w.cell? ⟨b, off + j, none⟩ = some (.string L[j])
/-- The bytes of texts, one behind the other. -/
def joinB (L : List ByteArray) : List UInt8 := L.flatMap fun s => s.data.toList
theorem joinB_take (L : List ByteArray) (k : Nat) (h : k < L.length) : joinB (L.take (k + 1)) = joinB (L.take k) ++ L[k].data.toList := by
  rw [List.take_succ_eq_append_getElem h]; unfold joinB; rw [List.flatMap_append]; simp only [List.flatMap_cons, List.flatMap_nil, List.append_nil]
theorem take_snoc (s : ByteArray) (k : Nat) (h : k < s.size) : s.data.toList.take (k + 1) = s.data.toList.take k ++ [s[k]] := by
  rw [List.take_succ_eq_append_getElem (by simpa using h)]; rfl
theorem not_u32 (x : Nat) (h : x < 4294967296) : bits .xor .u32 IntKind.u32.max (x : Int) = ((x ^^^ 4294967295 : Nat) : Int) := by
  rw [show IntKind.u32.max = ((4294967295 : Nat) : Int) from rfl, u32_xor_nat _ _ (by omega) h, Nat.xor_comm]

set_option maxRecDepth 100000 in
set_option maxHeartbeats 1000000 in
theorem crc_nil (w : World) :
    Calls Try.prog 98 #[.slice none 0 0] w fun e w' => e = .returned (.int .u32 ((crcL [] : Nat) : Int)) ∧ w = w' := by
  have HN := Lib.hid (show bits .xor .u32 IntKind.u32.max 4294967295 = ((crcL [] : Nat) : Int) from not_u32 4294967295 (by omega))
  go_enter Try.func98, Try.ntmps98
  go_wp2
  go_loop [3, 9] (fun s i => i = .int .i64 0 ∧ s = .int .u32 4294967295) (fun _ _ => 0)
  case atStart => exact ⟨rfl, rfl⟩
  case round =>
    obtain ⟨rfl, rfl⟩ := hrel
    go_wp2
    go_ret
    exact ⟨by rw [← HN.out]; rfl, rfl⟩

set_option maxRecDepth 100000 in
set_option maxHeartbeats 1000000 in
theorem crc_some (L : List ByteArray) (b off c : Nat) (w : World) (hn : L.length ≤ maxLen) (hs : ∀ s ∈ L, s.size ≤ maxLen)
    (hc : ∀ j (h : j < L.length), w.cell? ⟨b, off + j, none⟩ = some (.string L[j])) :
    Calls Try.prog 98 #[.slice (some ⟨b, off, none⟩) L.length c] w fun e w' => e = .returned (.int .u32 ((crcL (joinB L) : Nat) : Int)) ∧ w = w' := by
  unfold maxLen at hn
  have HC := Lib.hid hc; clear hc
  have HS := Lib.hid hs; clear hs
  go_enter Try.func98, Try.ntmps98
  go_wp2
  go_loop [3, 9] (fun s i => ∃ k : Nat, k ≤ L.length ∧ i = .int .i64 k ∧ s = .int .u32 ((crcRaw 4294967295 (joinB (L.take k)) : Nat) : Int)) (fun _ i => L.length - (intOf i).toNat)
  case atStart => exact ⟨0, Nat.zero_le _, rfl, rfl⟩
  case round =>
    obtain ⟨k, hk, rfl, rfl⟩ := hrel
    have hxl := crcRaw_lt (joinB (L.take k)) 4294967295 (by omega)
    obtain ⟨x, hx⟩ : ∃ x, crcRaw 4294967295 (joinB (L.take k)) = x := ⟨_, rfl⟩
    rw [hx] at hxl ⊢
    have HX := Lib.hid hx; clear hx
    by_cases hlt : k < L.length
    · have hcell := HC.out k hlt
      have hsz := HS.out L[k] (List.getElem_mem hlt)
      have HJ : Hid (crcRaw 4294967295 (joinB (L.take (k + 1))) = crcRaw x L[k].data.toList) := by show _ = _; rw [joinB_take L k hlt, crcRaw_append, HX.out]
      unfold maxLen at hsz
      obtain ⟨p, hp⟩ : ∃ p, L[k] = p := ⟨_, rfl⟩
      rw [hp] at hcell hsz HJ
      clear hp
      go_wp2
      go_loop [3, 15] (fun s i => ∃ j : Nat, j ≤ p.size ∧ i = .int .i64 j ∧ s = .int .u32 ((crcRaw x (p.data.toList.take j) : Nat) : Int)) (fun _ i => p.size - (intOf i).toNat)
      case atStart => exact ⟨0, Nat.zero_le _, rfl, rfl⟩
      case round =>
        obtain ⟨j, hj, rfl, rfl⟩ := hrel
        have hyl := crcRaw_lt (p.data.toList.take j) x hxl
        obtain ⟨y, hy⟩ : ∃ y, crcRaw x (p.data.toList.take j) = y := ⟨_, rfl⟩
        rw [hy] at hyl ⊢
        have HY := Lib.hid hy; clear hy
        by_cases hjl : j < p.size
        · have HJ2 : Hid (crcRaw x (p.data.toList.take (j + 1)) = addB y p[j]) := by show _ = _; rw [take_snoc p j hjl, crcRaw_snoc, HY.out]
          go_wp2_with (go_at_call 102; refine (addByte_any y p[j] _ hyl).mono ?_; rintro e w' ⟨rfl, rfl⟩)
          go_round
          case rel => exact ⟨j + 1, by omega, by go_num, by rw [HJ2.out]⟩
          case measure => simp [intOf]; omega
        · have HE : Hid (y = crcRaw x p.data.toList) := by show _ = _; rw [← HY.out, List.take_of_length_le (by simp; omega)]
          go_wp2
          go_round
          case rel => exact ⟨k + 1, by omega, by go_num, by rw [HJ.out, HE.out]⟩
          case measure => simp [intOf]; omega
    · have HE : Hid (bits .xor .u32 IntKind.u32.max (x : Int) = ((crcL (joinB L) : Nat) : Int)) := by
        show _ = _
        rw [not_u32 x hxl, ← HX.out, List.take_of_length_le (by omega)]; rfl
      go_wp2
      go_ret
      exact ⟨by rw [← HE.out]; rfl, rfl⟩

theorem crc_any (L : List ByteArray) (v : Value) (w : World) (hn : L.length ≤ maxLen) (hs : ∀ s ∈ L, s.size ≤ maxLen) (h : Strs w v L) :
    Calls Try.prog 98 #[v] w fun e w' => e = .returned (.int .u32 ((crcL (joinB L) : Nat) : Int)) ∧ w = w' := by
  rcases h with ⟨rfl, rfl⟩ | ⟨b, off, c, rfl, _, hc⟩
  · exact crc_nil w
  · exact crc_some L b off c w hn hs hc
end Go.Proofs.Ytodfcbpimglhdaa.Fr
/- Numbers and texts as bytes, in plain numbers and lists: what is written, what is read; nothing of the program is walked here. -/
namespace Go.Proofs.Ytodfcbpimglhdaa.Fr

/-- A number as bytes: seven bits each, the lowest first. -/
def varL (v : Nat) : List UInt8 := if v < 128 then [UInt8.ofNat v] else UInt8.ofNat (v % 128 + 128) :: varL (v / 128)
termination_by v
decreasing_by omega
/-- The number that bytes say. -/
def valL : List UInt8 → Nat
  | [] => 0
  | b :: t => b.toNat % 128 + 128 * valL t
/-- How many bytes the number has that a list begins with, i of them gone by; 0, if there is none. -/
def vsz : Nat → List UInt8 → Nat
  | _, [] => 0
  | i, b :: t => if 10 ≤ i then 0 else if 128 ≤ b.toNat then vsz (i + 1) t else if (0 < i ∧ b.toNat = 0) ∨ (i = 9 ∧ 1 < b.toNat) then 0 else i + 1
/-- What is read of bytes: the number and the rest. -/
def rdV (l : List UInt8) : Option (Nat × List UInt8) := if vsz 0 l = 0 then none else some (valL (l.take (vsz 0 l)), l.drop (vsz 0 l))
/-- A text as bytes, and what is read. -/
def textL (t : List UInt8) : List UInt8 := varL t.length ++ t
def rdT (l : List UInt8) : Option (List UInt8 × List UInt8) :=
  match rdV l with
  | none => none
  | some (n, r) => if n ≤ r.length then some (r.take n, r.drop n) else none

theorem varL_lo (v : Nat) (h : v < 128) : varL v = [UInt8.ofNat v] := by rw [varL, if_pos h]
theorem varL_hi (v : Nat) (h : 128 ≤ v) : varL v = UInt8.ofNat (v % 128 + 128) :: varL (v / 128) := by rw [varL, if_neg (by omega)]
theorem toNat_of (n : Nat) (h : n < 256) : (UInt8.ofNat n).toNat = n := by rw [UInt8.toNat_ofNat']; exact Nat.mod_eq_of_lt h
theorem varL_len (v : Nat) : 1 ≤ (varL v).length := by
  by_cases h : v < 128
  · rw [varL_lo v h]; simp
  · rw [varL_hi v (by omega)]; simp
theorem valL_varL (v : Nat) : valL (varL v) = v := by
  induction v using Nat.strongRecOn with
  | ind v ih =>
    by_cases h : v < 128
    · rw [varL_lo v h]; simp only [valL]; rw [toNat_of v (by omega)]; omega
    · rw [varL_hi v (by omega)]; simp only [valL]; rw [ih (v / 128) (by omega), toNat_of _ (by omega)]; omega
theorem pow_part (i : Nat) (h : i ≤ 8) : 2 ^ (64 - 7 * i) = 2 ^ (64 - 7 * (i + 1)) * 128 := by
  have e : 64 - 7 * i = 64 - 7 * (i + 1) + 7 := by omega
  rw [e, Nat.pow_add]
theorem pow_small (i : Nat) (h : 9 ≤ i) (h2 : i ≤ 9) : 2 ^ (64 - 7 * i) = 2 := by
  have e : i = 9 := by omega
  subst e; rfl
/-- What was written is told with its length. -/
theorem vsz_varL (v : Nat) (s : List UInt8) (i : Nat) (hi : i ≤ 9) (hv : v < 2 ^ (64 - 7 * i)) (h0 : 0 < i → 0 < v) : vsz i (varL v ++ s) = i + (varL v).length := by
  induction v using Nat.strongRecOn generalizing i with
  | ind v ih =>
    by_cases h : v < 128
    · rw [varL_lo v h]
      simp only [List.cons_append, List.nil_append, vsz]
      rw [toNat_of v (by omega), if_neg (by omega), if_neg (by omega), if_neg]
      · rfl
      · intro hh
        rcases hh with ⟨h1, h2⟩ | ⟨h1, h2⟩
        · have := h0 h1; omega
        · have := pow_small i (by omega) (by omega); omega
    · have hi8 : i ≤ 8 := by
        apply Decidable.byContradiction
        intro hh
        have := pow_small i (by omega) (by omega); omega
      have hp := pow_part i hi8
      have hq : v / 128 < 2 ^ (64 - 7 * (i + 1)) := by rw [hp] at hv; omega
      rw [varL_hi v (by omega)]
      simp only [List.cons_append, vsz, List.length_cons]
      rw [toNat_of _ (by omega), if_neg (by omega), if_pos (by omega), ih (v / 128) (by omega) (i + 1) (by omega) hq (fun _ => by omega)]
      omega
/-- What is told is a number as it is written. -/
theorem vsz_some (l : List UInt8) (i : Nat) (hi : i ≤ 10) (h : vsz i l ≠ 0) :
    ∃ m, vsz i l = i + m ∧ 1 ≤ m ∧ m ≤ l.length ∧ i + m ≤ 10 ∧ varL (valL (l.take m)) = l.take m ∧ valL (l.take m) < 2 ^ (64 - 7 * i) ∧ (0 < i → 0 < valL (l.take m)) := by
  induction l generalizing i with
  | nil => exact absurd rfl h
  | cons b t ih =>
    simp only [vsz] at h ⊢
    by_cases h10 : 10 ≤ i
    · rw [if_pos h10] at h; exact absurd rfl h
    · rw [if_neg h10] at h ⊢
      by_cases hb : 128 ≤ b.toNat
      · rw [if_pos hb] at h ⊢
        obtain ⟨m, e, h1, h2, h3, h4, h5, h6⟩ := ih (i + 1) (by omega) h
        have h7 := h6 (by omega)
        have hlt := byte_lt b
        have hp := pow_part i (by omega)
        refine ⟨m + 1, by omega, by omega, by simp; omega, by omega, ?_, ?_, ?_⟩
        · rw [List.take_succ_cons]
          simp only [valL]
          rw [varL_hi _ (by omega)]
          have e1 : (b.toNat % 128 + 128 * valL (t.take m)) % 128 + 128 = b.toNat := by omega
          have e2 : (b.toNat % 128 + 128 * valL (t.take m)) / 128 = valL (t.take m) := by omega
          rw [e1, e2, h4, UInt8.ofNat_toNat]
        · rw [List.take_succ_cons]; simp only [valL]; rw [hp]; omega
        · intro _; rw [List.take_succ_cons]; simp only [valL]; omega
      · rw [if_neg hb] at h ⊢
        by_cases hc : (0 < i ∧ b.toNat = 0) ∨ (i = 9 ∧ 1 < b.toNat)
        · rw [if_pos hc] at h; exact absurd rfl h
        · rw [if_neg hc]
          refine ⟨1, rfl, Nat.le_refl _, by simp, by omega, ?_, ?_, ?_⟩
          · rw [List.take_succ_cons, List.take_zero]
            simp only [valL]
            rw [varL_lo _ (by omega), show b.toNat % 128 + 128 * 0 = b.toNat by omega, UInt8.ofNat_toNat]
          · rw [List.take_succ_cons, List.take_zero]
            simp only [valL]
            by_cases h9 : i = 9
            · have := pow_small i (by omega) (by omega); omega
            · have hp : 2 ^ 7 ≤ 2 ^ (64 - 7 * i) := Nat.pow_le_pow_right (by omega) (by omega)
              omega
          · intro hi0
            rw [List.take_succ_cons, List.take_zero]
            simp only [valL]
            omega
theorem vsz_step (l : List UInt8) (k : Nat) (h : k < l.length) (hk : k < 10) (hb : 128 ≤ (l[k]).toNat) : vsz k (l.drop k) = vsz (k + 1) (l.drop (k + 1)) := by
  rw [List.drop_eq_getElem_cons h]
  simp only [vsz]
  rw [if_neg (by omega), if_pos hb]
theorem vsz_last (l : List UInt8) (k : Nat) (h : k < l.length) (hk : k < 10) (hb : (l[k]).toNat < 128) : vsz k (l.drop k) = if (0 < k ∧ (l[k]).toNat = 0) ∨ (k = 9 ∧ 1 < (l[k]).toNat) then 0 else k + 1 := by
  rw [List.drop_eq_getElem_cons h]
  simp only [vsz]
  rw [if_neg (by omega), if_neg (by omega)]
theorem vsz_end (l : List UInt8) (k : Nat) (h : l.length ≤ k ∨ 10 ≤ k) : vsz k (l.drop k) = 0 := by
  by_cases hl : l.length ≤ k
  · rw [List.drop_of_length_le hl]; rfl
  · rw [List.drop_eq_getElem_cons (by omega)]
    simp only [vsz]
    rw [if_pos (by omega)]

theorem rdV_varL (v : Nat) (s : List UInt8) (h : v < 18446744073709551616) : rdV (varL v ++ s) = some (v, s) := by
  have e := vsz_varL v s 0 (by omega) h (fun hh => by omega)
  have hl := varL_len v
  unfold rdV
  rw [e, Nat.zero_add, if_neg (by omega), List.take_left, List.drop_left, valL_varL]
theorem rdV_some {l : List UInt8} {v : Nat} {r : List UInt8} (h : rdV l = some (v, r)) : varL v ++ r = l ∧ v < 18446744073709551616 ∧ vsz 0 l ≠ 0 ∧ vsz 0 l ≤ l.length ∧ vsz 0 l ≤ 10 ∧ v = valL (l.take (vsz 0 l)) ∧ r = l.drop (vsz 0 l) := by
  unfold rdV at h
  by_cases hz : vsz 0 l = 0
  · rw [if_pos hz] at h; cases h
  · rw [if_neg hz] at h
    obtain ⟨m, e, h1, h2, h3, h4, h5, _⟩ := vsz_some l 0 (by omega) hz
    rw [e, Nat.zero_add] at h ⊢
    cases h
    exact ⟨by rw [h4, List.take_append_drop], h5, by omega, h2, by omega, rfl, rfl⟩
theorem rdV_none {l : List UInt8} (h : rdV l = none) : vsz 0 l = 0 := by
  unfold rdV at h
  by_cases hz : vsz 0 l = 0
  · exact hz
  · rw [if_neg hz] at h; cases h
/-- The reader that writes anew and compares reads the same. -/
theorem rd_again (l : List UInt8) (k : Nat) (hz : vsz 0 l = 0) : varL (valL (l.take (k + 1)) % 18446744073709551616) ≠ l.take (k + 1) := by
  intro h
  have e := rdV_varL (valL (l.take (k + 1)) % 18446744073709551616) (l.drop (k + 1)) (Nat.mod_lt _ (by omega))
  rw [h, List.take_append_drop] at e
  exact (rdV_some e).2.2.1 hz
theorem rd_again' (l : List UInt8) (hz : vsz 0 l ≠ 0) : varL (valL (l.take (vsz 0 l)) % 18446744073709551616) = l.take (vsz 0 l) ∧ valL (l.take (vsz 0 l)) % 18446744073709551616 = valL (l.take (vsz 0 l)) := by
  obtain ⟨m, e, h1, h2, h3, h4, h5, _⟩ := vsz_some l 0 (by omega) hz
  rw [e, Nat.zero_add]
  have e2 : valL (l.take m) % 18446744073709551616 = valL (l.take m) := Nat.mod_eq_of_lt h5
  exact ⟨by rw [e2, h4], e2⟩

theorem rdT_textL (t s : List UInt8) (h : t.length < 18446744073709551616) : rdT (textL t ++ s) = some (t, s) := by
  unfold rdT textL
  rw [List.append_assoc, rdV_varL _ _ h]
  simp
theorem rdT_some {l t r : List UInt8} (h : rdT l = some (t, r)) : textL t ++ r = l := by
  unfold rdT at h
  cases hv : rdV l with
  | none => rw [hv] at h; cases h
  | some p =>
    obtain ⟨n, q⟩ := p
    rw [hv] at h
    simp only at h
    by_cases hn : n ≤ q.length
    · rw [if_pos hn] at h
      cases h
      have e := (rdV_some hv).1
      unfold textL
      rw [List.length_take, Nat.min_eq_left hn, List.append_assoc, List.take_append_drop, e]
    · rw [if_neg hn] at h; cases h

theorem valL_snoc (l : List UInt8) (b : UInt8) : valL (l ++ [b]) = valL l + (b.toNat % 128) * 128 ^ l.length := by
  induction l with
  | nil => simp [valL]
  | cons c l ih =>
    simp only [List.cons_append, valL, ih, List.length_cons, Nat.pow_succ]
    rw [Nat.mul_add, ← Nat.mul_assoc, Nat.mul_comm 128 (b.toNat % 128), Nat.mul_assoc, Nat.mul_comm 128 (128 ^ l.length)]
    omega
theorem valL_lt (l : List UInt8) : valL l < 128 ^ l.length := by
  induction l with
  | nil => simp [valL]
  | cons c l ih => simp only [valL, List.length_cons, Nat.pow_succ]; omega

/-- Four bytes of a number. -/
def fixL (v : Nat) : List UInt8 := [UInt8.ofNat v, UInt8.ofNat (v / 256), UInt8.ofNat (v / 65536), UInt8.ofNat (v / 16777216)]
def unfix (a b c d : UInt8) : Nat := a.toNat + 256 * b.toNat + 65536 * c.toNat + 16777216 * d.toNat
theorem unfix_fixL (v : Nat) (h : v < 4294967296) : unfix (UInt8.ofNat v) (UInt8.ofNat (v / 256)) (UInt8.ofNat (v / 65536)) (UInt8.ofNat (v / 16777216)) = v := by
  unfold unfix
  simp only [UInt8.toNat_ofNat']
  omega

end Go.Proofs.Ytodfcbpimglhdaa.Fr
/- Numbers of four bytes: what Fixed and ToFixed answer, and the document's own: the same. -/
namespace Go.Proofs.Ytodfcbpimglhdaa.Fr
open Go.RowKit

/-- Bytes as a text. -/
def bs (l : List UInt8) : ByteArray := ⟨l.toArray⟩

theorem cell_at {w : World} {b : Nat} {cs : Array Value} {t : TypeId} {s : Nat × Nat} {k : Nat} (h : w.heap[b]? = some (.cells cs t s)) : w.cell? ⟨b, k, none⟩ = cs[k]? := by
  simp [World.cell?, h]

theorem conv4 (w : World) (a b c d : Int) : (convert 78 9 (.slice (some ⟨w.heap.size, 0, none⟩) 4 4)).run Try.prog (w.alloc (.cells #[.int .u8 a, .int .u8 b, .int .u8 c, .int .u8 d] 5)) = .ok (.string (strOfNums [a, b, c, d])) (w.alloc (.cells #[.int .u8 a, .int .u8 b, .int .u8 c, .int .u8 d] 5)) := by
  refine run_convert_bytes_arg _ 78 5 Try.underlying78 Try.underlying5 w.heap.size 0 4 4 [a, b, c, d] rfl ?_ 9 Try.underlying9
  intro i hi
  rw [cell_at (heap_alloc_new ..)]
  match i, hi with
  | 0, _ => rfl
  | 1, _ => rfl
  | 2, _ => rfl
  | 3, _ => rfl
theorem fix_str (v : Nat) (hv : v < 4294967296) : strOfNums [(v : Int) % 256, (v : Int) / 256 % 256, (v : Int) / 65536 % 256, (v : Int) / 16777216] = bs (fixL v) := by
  have e (x : Nat) : UInt8.ofNat ((x : Int) % 256).toNat = UInt8.ofNat x := by
    apply UInt8.toNat_inj.1
    rw [UInt8.toNat_ofNat', UInt8.toNat_ofNat']
    omega
  have e1 := e v
  have e2 := e (v / 256)
  have e3 := e (v / 65536)
  have e4 := e (v / 16777216)
  have e5 : ((v / 16777216 : Nat) : Int) % 256 = (v : Int) / 16777216 := by omega
  rw [e5] at e4
  unfold strOfNums bs fixL
  simp only [List.map_cons, List.map_nil]
  rw [e1, e4]
  rw [show (v : Int) / 256 = ((v / 256 : Nat) : Int) by omega, e2, show (v : Int) / 65536 = ((v / 65536 : Nat) : Int) by omega, e3]

set_option maxRecDepth 100000 in
set_option maxHeartbeats 1000000 in
theorem fixed_any (v : Nat) (w : World) (hv : v < 4294967296) :
    Calls Try.prog 83 #[.int .u32 (v : Int)] w fun e w' => e = .returned (.string (bs (fixL v))) ∧ Below w.heap.size w w' := by
  have hconv := conv4 w
  have HF := Lib.hid (fix_str v hv)
  go_enter Try.func83, Try.ntmps83
  go_wp2
  go_ret
  exact ⟨by rw [← HF.out]; rfl, (Below.refl _ _).alloc (Nat.le_refl _) _⟩
set_option maxRecDepth 100000 in
set_option maxHeartbeats 1000000 in
theorem rfixed_any (v : Nat) (w : World) (hv : v < 4294967296) :
    Calls Try.prog 84 #[.int .u32 (v : Int)] w fun e w' => e = .returned (.string (bs (fixL v))) ∧ Below w.heap.size w w' := by
  have hconv := conv4 w
  have HF := Lib.hid (fix_str v hv)
  go_enter Try.func84, Try.ntmps84
  go_wp2
  go_ret
  exact ⟨by rw [← HF.out]; rfl, (Below.refl _ _).alloc (Nat.le_refl _) _⟩
theorem below_drewN {B : Nat} {a w : World} (h : Below B a w) (n : Nat) : Below B a (w.drewN n) := ⟨h.os, h.tape, h.output, h.size, h.block⟩
theorem sum4 (a b c d : UInt8) : (((a.toNat : Int) + 256 * ((b.toNat : Int) % 4294967296) + 65536 * ((c.toNat : Int) % 4294967296)) % 4294967296 + 16777216 * ((d.toNat : Int) % 4294967296) % 4294967296) % 4294967296 = ((unfix a b c d : Nat) : Int) := by
  have ha := byte_lt a; have hb := byte_lt b; have hc := byte_lt c; have hd := byte_lt d
  unfold unfix
  omega
theorem tup3 {x y : Int} (k : IntKind) (s : Value) (b : Value) (h : x = y) : Ending.returned (.tuple #[.int k x, s, b]) = .returned (.tuple #[.int k y, s, b]) := by rw [h]
theorem join_or (i x y : Nat) (hx : x % 2 ^ i = 0) (hy : y < 2 ^ i) : y ||| x = y + x := by rw [Nat.or_comm, nat_join i x y hx hy, Nat.add_comm]
theorem or4 (a b c d : UInt8) : bits .or .u32 (bits .or .u32 (bits .or .u32 ((a.toNat : Int) % 4294967296) ((b.toNat : Int) % 4294967296 * 256 % 4294967296)) ((c.toNat : Int) % 4294967296 * 65536 % 4294967296)) ((d.toNat : Int) % 4294967296 * 16777216 % 4294967296) = ((unfix a b c d : Nat) : Int) := by
  have ha := byte_lt a; have hb := byte_lt b; have hc := byte_lt c; have hd := byte_lt d
  rw [show (a.toNat : Int) % 4294967296 = ((a.toNat : Nat) : Int) by omega, show (b.toNat : Int) % 4294967296 * 256 % 4294967296 = ((256 * b.toNat : Nat) : Int) by omega,
    show (c.toNat : Int) % 4294967296 * 65536 % 4294967296 = ((65536 * c.toNat : Nat) : Int) by omega, show (d.toNat : Int) % 4294967296 * 16777216 % 4294967296 = ((16777216 * d.toNat : Nat) : Int) by omega]
  rw [u32_or_nat _ _ (by omega) (by omega), join_or 8 _ _ (by omega) (by omega), u32_or_nat _ _ (by omega) (by omega), join_or 16 _ _ (by omega) (by omega), u32_or_nat _ _ (by omega) (by omega), join_or 24 _ _ (by omega) (by omega)]
  rfl

set_option maxRecDepth 100000 in
set_option maxHeartbeats 1000000 in
theorem toFixed_some (s : ByteArray) (w : World) (h4 : 4 ≤ s.size) (hs : s.size ≤ maxLen) :
    Calls Try.prog 93 #[.string s] w fun e w' => e = .returned (.tuple #[.int .u32 ((unfix s[0] s[1] s[2] s[3] : Nat) : Int), .string (s.extract 4 s.size), .bool true]) ∧ Below w.heap.size w w' := by
  unfold maxLen at hs
  have i0 : 0 < s.size := by omega
  have i1 : 1 < s.size := by omega
  have i2 : 2 < s.size := by omega
  have i3 : 3 < s.size := by omega
  have j1 : (1 : Int) < (s.size : Int) := by omega
  have j2 : (2 : Int) < (s.size : Int) := by omega
  have j3 : (3 : Int) < (s.size : Int) := by omega
  have j4 : (4 : Int) ≤ (s.size : Int) := by omega
  have HV := Lib.hid (or4 s[0] s[1] s[2] s[3])
  go_enter Try.func93, Try.ntmps93
  go_wp2
  go_quiet (fail)
  rw [HV.out]
  go_wp2
  go_quiet (fail)
  go_wp2
  go_ret3
  exact ⟨rfl, below_drewN (below_drewN (Below.refl _ _) _) _⟩
set_option maxRecDepth 100000 in
set_option maxHeartbeats 1000000 in
theorem rtoFixed_some (s : ByteArray) (w : World) (h4 : 4 ≤ s.size) (hs : s.size ≤ maxLen) :
    Calls Try.prog 78 #[.string s] w fun e w' => e = .returned (.tuple #[.int .u32 ((unfix s[0] s[1] s[2] s[3] : Nat) : Int), .string (s.extract 4 s.size), .bool true]) ∧ Below w.heap.size w w' := by
  unfold maxLen at hs
  have i0 : 0 < s.size := by omega
  have i1 : 1 < s.size := by omega
  have i2 : 2 < s.size := by omega
  have i3 : 3 < s.size := by omega
  have j1 : (1 : Int) < (s.size : Int) := by omega
  have j2 : (2 : Int) < (s.size : Int) := by omega
  have j3 : (3 : Int) < (s.size : Int) := by omega
  have j4 : (4 : Int) ≤ (s.size : Int) := by omega
  go_enter Try.func78, Try.ntmps78
  go_wp2
  go_quiet (fail)
  go_wp2
  go_ret3
  exact ⟨tup3 _ _ _ (sum4 s[0] s[1] s[2] s[3]), below_drewN (Below.refl _ _) _⟩
set_option maxRecDepth 100000 in
set_option maxHeartbeats 1000000 in
theorem toFixed_none (s : ByteArray) (w : World) (h4 : s.size < 4) :
    Calls Try.prog 93 #[.string s] w fun e w' => e = .returned (.tuple #[.int .u32 0, .string ⟨#[]⟩, .bool false]) ∧ Below w.heap.size w w' := by
  go_enter Try.func93, Try.ntmps93
  go_wp2
  go_ret3
  exact ⟨rfl, (Below.refl _ _)⟩
set_option maxRecDepth 100000 in
set_option maxHeartbeats 1000000 in
theorem rtoFixed_none (s : ByteArray) (w : World) (h4 : s.size < 4) :
    Calls Try.prog 78 #[.string s] w fun e w' => e = .returned (.tuple #[.int .u32 0, .string ⟨#[]⟩, .bool false]) ∧ Below w.heap.size w w' := by
  go_enter Try.func78, Try.ntmps78
  go_wp2
  go_ret3
  exact ⟨rfl, (Below.refl _ _)⟩
end Go.Proofs.Ytodfcbpimglhdaa.Fr
/- Frames in plain lists: what is packed, what a head tells, what is unpacked; nothing of the program is walked here. -/
namespace Go.Proofs.Ytodfcbpimglhdaa.Fr
open Go.RowKit

theorem bs_append (l m : List UInt8) : bs l ++ bs m = bs (l ++ m) := by
  apply ByteArray.ext
  rw [ByteArray.data_append]
  unfold bs
  simp
theorem bs_data (s : ByteArray) : bs s.data.toList = s := by
  unfold bs
  rw [Array.toArray_toList]
theorem data_bs (l : List UInt8) : (bs l).data.toList = l := rfl
theorem bs_len (l : List UInt8) : (bs l).size = l.length := rfl
theorem bs_eq {l m : List UInt8} (h : bs l = bs m) : l = m := congrArg (fun b : ByteArray => b.data.toList) h
theorem bs_ext (l : List UInt8) (a b : Nat) : (bs l).extract a b = bs ((l.take b).drop a) := by
  apply ByteArray.ext
  rw [ByteArray.data_extract]
  unfold bs
  apply Array.ext'
  rw [Array.toList_extract]
  simp only [List.extract_eq_take_drop, List.drop_take]
theorem str_same {a b : ByteArray} (h : a = b) : (a.toList == b.toList) = true := by rw [h]; simp
theorem str_diff {a b : ByteArray} (h : a ≠ b) : (a.toList == b.toList) = false := by
  rw [ByteArray.toList_eq, ByteArray.toList_eq, beq_eq_false_iff_ne]
  intro h2
  apply h
  apply ByteArray.ext
  exact Array.ext' h2
theorem str_len (s : ByteArray) : s.data.toList.length = s.size := by simp

/-- The number at a place. -/
def nmAt (l : List UInt8) (i : Nat) : Nat := unfix (l.getD i 0) (l.getD (i + 1) 0) (l.getD (i + 2) 0) (l.getD (i + 3) 0)
theorem nmAt_lt (l : List UInt8) (i : Nat) : nmAt l i < 4294967296 := by
  unfold nmAt unfix
  have h0 := byte_lt (l.getD i 0); have h1 := byte_lt (l.getD (i + 1) 0); have h2 := byte_lt (l.getD (i + 2) 0); have h3 := byte_lt (l.getD (i + 3) 0)
  omega
theorem getD_drop (l : List UInt8) (k i : Nat) : (l.drop k).getD i 0 = l.getD (k + i) 0 := by simp [List.getD]
theorem getD_take (l : List UInt8) (k i : Nat) (h : i < k) : (l.take k).getD i 0 = l.getD i 0 := by simp [List.getD, h]
theorem getD_right (A B : List UInt8) (i : Nat) : (A ++ B).getD (A.length + i) 0 = B.getD i 0 := by
  simp only [List.getD]; rw [List.getElem?_append_right (by omega), Nat.add_sub_cancel_left]
theorem getD_left (A B : List UInt8) (i : Nat) (h : i < A.length) : (A ++ B).getD i 0 = A.getD i 0 := by simp [List.getD, List.getElem?_append_left h]
theorem nmAt_drop (l : List UInt8) (k i : Nat) : nmAt (l.drop k) i = nmAt l (k + i) := by
  unfold nmAt; simp only [getD_drop, Nat.add_assoc]
theorem nmAt_take (l : List UInt8) (k i : Nat) (h : i + 4 ≤ k) : nmAt (l.take k) i = nmAt l i := by
  unfold nmAt
  rw [getD_take _ _ _ (by omega), getD_take _ _ _ (by omega), getD_take _ _ _ (by omega), getD_take _ _ _ (by omega)]
theorem nmAt_right (A B : List UInt8) (i : Nat) : nmAt (A ++ B) (A.length + i) = nmAt B i := by
  unfold nmAt; simp only [Nat.add_assoc, getD_right]
theorem nmAt_left (A B : List UInt8) (i : Nat) (h : i + 4 ≤ A.length) : nmAt (A ++ B) i = nmAt A i := by
  unfold nmAt
  rw [getD_left _ _ _ (by omega), getD_left _ _ _ (by omega), getD_left _ _ _ (by omega), getD_left _ _ _ (by omega)]
theorem nmAt_fix (v : Nat) (B : List UInt8) (h : v < 4294967296) : nmAt (fixL v ++ B) 0 = v := by
  rw [nmAt_left _ _ _ (by simp [fixL])]
  exact unfix_fixL v h
theorem fixL_len (v : Nat) : (fixL v).length = 4 := rfl
theorem nmAt_zero (k i : Nat) : nmAt (List.replicate k 0) i = 0 := by
  have e (j : Nat) : (List.replicate k (0 : UInt8)).getD j 0 = 0 := by
    simp only [List.getD, List.getElem?_replicate]; split <;> rfl
  unfold nmAt; rw [e, e, e, e]; rfl
theorem unfix_inj {a b c d a' b' c' d' : UInt8} (h : unfix a b c d = unfix a' b' c' d') : a = a' ∧ b = b' ∧ c = c' ∧ d = d' := by
  unfold unfix at h
  have h0 := byte_lt a; have h1 := byte_lt b; have h2 := byte_lt c; have h3 := byte_lt d
  have k0 := byte_lt a'; have k1 := byte_lt b'; have k2 := byte_lt c'; have k3 := byte_lt d'
  exact ⟨UInt8.toNat_inj.1 (by omega), UInt8.toNat_inj.1 (by omega), UInt8.toNat_inj.1 (by omega), UInt8.toNat_inj.1 (by omega)⟩
theorem four (l : List UInt8) (i : Nat) (h : i + 4 ≤ l.length) : (l.take (i + 4)).drop i = [l.getD i 0, l.getD (i + 1) 0, l.getD (i + 2) 0, l.getD (i + 3) 0] := by
  have e (j : Nat) (hj : j < l.length) : l.getD j 0 = l[j] := by simp [List.getD, hj]
  rw [e i (by omega), e (i + 1) (by omega), e (i + 2) (by omega), e (i + 3) (by omega), List.drop_take, show i + 4 - i = 4 by omega,
    List.drop_eq_getElem_cons (by omega), List.take_succ_cons, List.drop_eq_getElem_cons (by omega), List.take_succ_cons,
    List.drop_eq_getElem_cons (by omega), List.take_succ_cons, List.drop_eq_getElem_cons (by omega), List.take_succ_cons, List.take_zero]
/-- Four bytes are a number's just if they say it. -/
theorem four_iff (l : List UInt8) (i v : Nat) (h : i + 4 ≤ l.length) (hv : v < 4294967296) : (l.take (i + 4)).drop i = fixL v ↔ nmAt l i = v := by
  rw [four l i h]
  constructor
  · intro e
    unfold fixL at e
    simp only [List.cons.injEq, and_true] at e
    obtain ⟨h0, h1, h2, h3⟩ := e
    unfold nmAt
    rw [h0, h1, h2, h3]; exact unfix_fixL v hv
  · intro e
    have e2 := e.trans (unfix_fixL v hv).symm
    unfold nmAt at e2
    obtain ⟨h0, h1, h2, h3⟩ := unfix_inj e2
    unfold fixL
    rw [h0, h1, h2, h3]

def cdxt : List UInt8 := [67, 68, 88, 84]
def cdxe : List UInt8 := [67, 68, 88, 69]
/-- The numbers of the blocks of writes. -/
def numsL (l : List (Int × ByteArray)) : List UInt8 := l.flatMap fun x => fixL x.1.toNat
theorem numsL_len (l : List (Int × ByteArray)) : (numsL l).length = 4 * l.length := by
  induction l with
  | nil => rfl
  | cons x l ih => unfold numsL at *; rw [List.flatMap_cons, List.length_append, ih, fixL_len, List.length_cons]; omega
theorem numsL_snoc (l : List (Int × ByteArray)) (k : Nat) (h : k < l.length) : numsL (l.take (k + 1)) = numsL (l.take k) ++ fixL l[k].1.toNat := by
  rw [List.take_succ_eq_append_getElem h]; unfold numsL; rw [List.flatMap_append]; simp only [List.flatMap_cons, List.flatMap_nil, List.append_nil]
theorem numsL_at (l : List (Int × ByteArray)) (Z : List UInt8) (i : Nat) (h : i < l.length) (hb : ∀ x ∈ l, 0 ≤ x.1 ∧ x.1 < 4096) : nmAt (numsL l ++ Z) (4 * i) = l[i].1.toNat := by
  induction l generalizing i with
  | nil => simp at h
  | cons x l ih =>
    have e : numsL (x :: l) ++ Z = fixL x.1.toNat ++ (numsL l ++ Z) := by unfold numsL; rw [List.flatMap_cons, List.append_assoc]
    rw [e]
    have hx := hb x (List.mem_cons_self ..)
    cases i with
    | zero => exact nmAt_fix _ _ (by omega)
    | succ i =>
      have e2 : 4 * (i + 1) = (fixL x.1.toNat).length + 4 * i := by rw [fixL_len]; omega
      rw [e2, nmAt_right, ih i (by simpa using h) (fun y hy => hb y (List.mem_cons_of_mem _ hy))]; rfl
/-- A head, as far as it goes without its noughts, and without its sum and its end. -/
def begL (seq n : Nat) (l : List (Int × ByteArray)) : List UInt8 := cdxt ++ (fixL (seq % 4294967296) ++ (fixL (seq / 4294967296) ++ (fixL n ++ numsL l)))
theorem begL_len (seq n : Nat) (l : List (Int × ByteArray)) : (begL seq n l).length = 16 + 4 * l.length := by
  unfold begL; simp only [List.length_append, fixL_len, numsL_len, cdxt, List.length_cons, List.length_nil]; omega
theorem begL_snoc (seq n : Nat) (l : List (Int × ByteArray)) (k : Nat) (h : k < l.length) : begL seq n (l.take (k + 1)) = begL seq n (l.take k) ++ fixL l[k].1.toNat := by
  unfold begL; rw [numsL_snoc l k h]; simp only [List.append_assoc]
def headL (seq : Nat) (l : List (Int × ByteArray)) : List UInt8 := begL seq l.length l ++ List.replicate (248 - (16 + 4 * l.length)) 0
theorem headL_len (seq : Nat) (l : List (Int × ByteArray)) (h : l.length ≤ 48) : (headL seq l).length = 248 := by
  unfold headL; rw [List.length_append, begL_len, List.length_replicate]; omega
/-- The whole head. -/
def topL (seq : Nat) (l : List (Int × ByteArray)) : List UInt8 := headL seq l ++ (fixL (crcL (headL seq l ++ joinB (l.map (·.2)))) ++ cdxe)
theorem topL_len (seq : Nat) (l : List (Int × ByteArray)) (h : l.length ≤ 48) : (topL seq l).length = 256 := by
  unfold topL; rw [List.length_append, List.length_append, headL_len seq l h, fixL_len]; rfl
def packL (seq : Nat) (l : List (Int × ByteArray)) : List ByteArray := bs (topL seq l) :: l.map (·.2)
/-- Why a write, and writes, cannot be packed. -/
def chk1 (x : Int × ByteArray) : Nat := if x.1 < 0 ∨ 4096 ≤ x.1 then 2 else if x.2.size ≠ 256 then 3 else 0
def chkL : List (Int × ByteArray) → Nat
  | [] => 0
  | x :: l => if chk1 x = 0 then chkL l else chk1 x
def chk (l : List (Int × ByteArray)) : Nat := if l.length = 0 ∨ 48 < l.length then 6 else chkL l
def pk (seq : Nat) (l : List (Int × ByteArray)) : List ByteArray × Nat := if chk l = 0 then (packL seq l, 0) else ([], chk l)
def WrOk (x : Int × ByteArray) : Prop := 0 ≤ x.1 ∧ x.1 < 4096 ∧ x.2.size = 256
theorem chk1_ok (x : Int × ByteArray) : chk1 x = 0 ↔ WrOk x := by
  unfold chk1 WrOk
  by_cases h : x.1 < 0 ∨ 4096 ≤ x.1
  · rw [if_pos h]; constructor
    · intro h2; omega
    · intro h2; omega
  · rw [if_neg h]
    by_cases h2 : x.2.size ≠ 256
    · rw [if_pos h2]; constructor
      · intro h2; omega
      · intro h3; exact absurd h3.2.2 h2
    · rw [if_neg h2]; constructor
      · intro _; exact ⟨by omega, by omega, by omega⟩
      · intro _; rfl
theorem chkL_ok (l : List (Int × ByteArray)) : chkL l = 0 ↔ ∀ x ∈ l, WrOk x := by
  induction l with
  | nil => simp [chkL]
  | cons x l ih =>
    unfold chkL
    by_cases h : chk1 x = 0
    · rw [if_pos h, ih]
      constructor
      · intro h2 y hy
        rcases List.mem_cons.1 hy with rfl | hy
        · exact (chk1_ok _).1 h
        · exact h2 y hy
      · intro h2 y hy; exact h2 y (List.mem_cons_of_mem _ hy)
    · rw [if_neg h]
      constructor
      · intro h2; exact absurd h2 h
      · intro h2; exact absurd ((chk1_ok x).2 (h2 x (List.mem_cons_self ..))) h
theorem chkL_drop (l : List (Int × ByteArray)) (k : Nat) (h : k < l.length) (hk : chk1 l[k] = 0) : chkL (l.drop k) = chkL (l.drop (k + 1)) := by
  rw [List.drop_eq_getElem_cons h]; show (if chk1 l[k] = 0 then _ else _) = _; rw [if_pos hk]
theorem chkL_at (l : List (Int × ByteArray)) (k : Nat) (h : k < l.length) (hk : chk1 l[k] ≠ 0) : chkL (l.drop k) = chk1 l[k] := by
  rw [List.drop_eq_getElem_cons h]; show (if chk1 l[k] = 0 then _ else _) = _; rw [if_neg hk]
theorem chk_ok (l : List (Int × ByteArray)) : chk l = 0 ↔ 1 ≤ l.length ∧ l.length ≤ 48 ∧ ∀ x ∈ l, WrOk x := by
  unfold chk
  by_cases h : l.length = 0 ∨ 48 < l.length
  · rw [if_pos h]; constructor
    · intro h2; omega
    · intro h2; omega
  · rw [if_neg h, chkL_ok]; constructor
    · intro h2; exact ⟨by omega, by omega, h2⟩
    · intro h2; exact h2.2.2

/-- Are these the numbers of n blocks, and noughts behind them (m numbers in all)? -/
def takeB (n m : Nat) (q : List UInt8) : Bool := (List.range m).all fun i => if i < n then decide (nmAt q (4 * i) < 4096) else nmAt q (4 * i) == 0
theorem takeB_iff (n m : Nat) (q : List UInt8) : takeB n m q = true ↔ ∀ i, i < m → (i < n → nmAt q (4 * i) < 4096) ∧ (n ≤ i → nmAt q (4 * i) = 0) := by
  unfold takeB
  rw [List.all_eq_true]
  constructor
  · intro h i hi
    have := h i (List.mem_range.2 hi)
    by_cases hn : i < n
    · rw [if_pos hn] at this; exact ⟨fun _ => of_decide_eq_true this, fun h2 => by omega⟩
    · rw [if_neg hn] at this; exact ⟨fun h2 => absurd h2 hn, fun _ => by simpa using this⟩
  · intro h i hi
    have := h i (List.mem_range.1 hi)
    by_cases hn : i < n
    · rw [if_pos hn]; exact decide_eq_true (this.1 hn)
    · rw [if_neg hn]; simpa using this.2 (by omega)
def headB (l : List UInt8) : Bool := decide (l.length = 256) && decide (l.take 4 = cdxt) && decide (l.drop 252 = cdxe) && decide (1 ≤ nmAt l 12) && decide (nmAt l 12 ≤ 48) && takeB (nmAt l 12) 58 ((l.take 248).drop 16)
theorem headB_iff (l : List UInt8) : headB l = true ↔ l.length = 256 ∧ l.take 4 = cdxt ∧ l.drop 252 = cdxe ∧ 1 ≤ nmAt l 12 ∧ nmAt l 12 ≤ 48 ∧ takeB (nmAt l 12) 58 ((l.take 248).drop 16) = true := by
  unfold headB; simp only [Bool.and_eq_true, decide_eq_true_eq, and_assoc]
def seqOf (l : List UInt8) : Nat := nmAt l 4 + 4294967296 * nmAt l 8
def blocksOf (l : List UInt8) : List Int := (List.range (nmAt l 12)).map fun i => ((nmAt l (16 + 4 * i) : Nat) : Int)
theorem blocksOf_len (l : List UInt8) : (blocksOf l).length = nmAt l 12 := by simp [blocksOf]
def hd (s : ByteArray) : Nat × Nat × Bool := if headB s.data.toList = true then (seqOf s.data.toList, nmAt s.data.toList 12, true) else (0, 0, false)
/-- Is all that is there of the form? -/
def formB (s : ByteArray) (D : List ByteArray) : Bool := headB s.data.toList && decide (nmAt s.data.toList 12 ≤ D.length) && (D.take (nmAt s.data.toList 12)).all fun d => d.size == 256
theorem formB_iff (s : ByteArray) (D : List ByteArray) : formB s D = true ↔ headB s.data.toList = true ∧ nmAt s.data.toList 12 ≤ D.length ∧ ∀ d ∈ D.take (nmAt s.data.toList 12), d.size = 256 := by
  unfold formB; simp only [Bool.and_eq_true, decide_eq_true_eq, and_assoc, List.all_eq_true, beq_iff_eq]
def sumB (s : ByteArray) (D : List ByteArray) : Bool := nmAt s.data.toList 248 == crcL (s.data.toList.take 248 ++ joinB (D.take (nmAt s.data.toList 12)))
def unp : List ByteArray → Nat × List (Int × ByteArray) × Nat
  | [] => (0, [], 7)
  | s :: D => if formB s D = true then if sumB s D = true then (seqOf s.data.toList, (blocksOf s.data.toList).zip (D.take (nmAt s.data.toList 12)), 0) else (0, [], 8) else (0, [], 7)

theorem unp_cons (s : ByteArray) (D : List ByteArray) : unp (s :: D) = if formB s D = true then if sumB s D = true then (seqOf s.data.toList, (blocksOf s.data.toList).zip (D.take (nmAt s.data.toList 12)), 0) else (0, [], 8) else (0, [], 7) := rfl

/-- The noughts, byte by byte. -/
theorem take_bytes (n m : Nat) (q : List UInt8) (_hn : n ≤ m) (h : takeB n m q = true) (j : Nat) (h1 : 4 * n ≤ j) (h2 : j < 4 * m) : q.getD j 0 = 0 := by
  have h3 := ((takeB_iff n m q).1 h (j / 4) (by omega)).2 (by omega)
  unfold nmAt unfix at h3
  have e : j = 4 * (j / 4) + 0 ∨ j = 4 * (j / 4) + 1 ∨ j = 4 * (j / 4) + 2 ∨ j = 4 * (j / 4) + 3 := by omega
  have z (b : UInt8) (hb : b.toNat = 0) : b = 0 := UInt8.toNat_inj.1 hb
  rcases e with e | e | e | e <;> rw [e] <;> apply z
  · rw [Nat.add_zero]; omega
  · omega
  · omega
  · omega
theorem bytes_take (n m : Nat) (q : List UInt8) (h0 : ∀ i, i < n → nmAt q (4 * i) < 4096) (h : ∀ j, 4 * n ≤ j → j < 4 * m → q.getD j 0 = 0) : takeB n m q = true := by
  rw [takeB_iff]
  intro i hi
  refine ⟨h0 i, fun hn => ?_⟩
  unfold nmAt
  rw [h _ (by omega) (by omega), h _ (by omega) (by omega), h _ (by omega) (by omega), h _ (by omega) (by omega)]; rfl

/-- What was packed. -/
theorem top_parts (seq : Nat) (l : List (Int × ByteArray)) (hseq : seq < 18446744073709551616) (hl : 1 ≤ l.length) (hl2 : l.length ≤ 48) (hw : ∀ x ∈ l, WrOk x) :
    headB (topL seq l) = true ∧ nmAt (topL seq l) 12 = l.length ∧ seqOf (topL seq l) = seq ∧ blocksOf (topL seq l) = l.map (·.1) ∧ (topL seq l).take 248 = headL seq l ∧ nmAt (topL seq l) 248 = crcL (headL seq l ++ joinB (l.map (·.2))) := by
  have hlen := headL_len seq l hl2
  have hlen2 := topL_len seq l hl2
  have hb : ∀ x ∈ l, 0 ≤ x.1 ∧ x.1 < 4096 := fun x hx => ⟨(hw x hx).1, (hw x hx).2.1⟩
  have htake : (topL seq l).take 248 = headL seq l := by unfold topL; rw [← hlen, List.take_left]
  have hat (i : Nat) (h : i + 4 ≤ 248) : nmAt (topL seq l) i = nmAt (headL seq l) i := by unfold topL; exact nmAt_left _ _ _ (by omega)
  have hsum : nmAt (topL seq l) 248 = crcL (headL seq l ++ joinB (l.map (·.2))) := by
    have := nmAt_right (headL seq l) (fixL (crcL (headL seq l ++ joinB (l.map (·.2)))) ++ cdxe) 0
    rw [hlen] at this
    unfold topL
    rw [this]; exact nmAt_fix _ _ (crcL_lt _)
  have e : headL seq l = cdxt ++ (fixL (seq % 4294967296) ++ (fixL (seq / 4294967296) ++ (fixL l.length ++ (numsL l ++ List.replicate (248 - (16 + 4 * l.length)) 0)))) := by
    unfold headL begL; simp only [List.append_assoc]
  have e4 : nmAt (headL seq l) 4 = seq % 4294967296 := by rw [e]; exact (nmAt_right cdxt _ 0).trans (nmAt_fix _ _ (by omega))
  have e8 : nmAt (headL seq l) 8 = seq / 4294967296 := by
    rw [e]; exact (nmAt_right cdxt _ 4).trans ((nmAt_right (fixL _) _ 0).trans (nmAt_fix _ _ (by omega)))
  have e12 : nmAt (headL seq l) 12 = l.length := by
    rw [e]; exact (nmAt_right cdxt _ 8).trans ((nmAt_right (fixL _) _ 4).trans ((nmAt_right (fixL _) _ 0).trans (nmAt_fix _ _ (by omega))))
  have ei (i : Nat) : nmAt (headL seq l) (16 + i) = nmAt (numsL l ++ List.replicate (248 - (16 + 4 * l.length)) 0) i := by
    rw [e, show 16 + i = cdxt.length + ((fixL (seq % 4294967296)).length + ((fixL (seq / 4294967296)).length + ((fixL l.length).length + i))) by simp only [fixL_len, cdxt, List.length_cons, List.length_nil]; omega, nmAt_right, nmAt_right, nmAt_right, nmAt_right]
  have eb (i : Nat) (h : i < l.length) : nmAt (headL seq l) (16 + 4 * i) = l[i].1.toNat := by rw [ei]; exact numsL_at l _ i h hb
  have ez (i : Nat) (h : l.length ≤ i) : nmAt (headL seq l) (16 + 4 * i) = 0 := by
    rw [ei, show 4 * i = (numsL l).length + 4 * (i - l.length) by rw [numsL_len]; omega, nmAt_right]; exact nmAt_zero _ _
  refine ⟨?_, by rw [hat 12 (by omega), e12], ?_, ?_, htake, hsum⟩
  · rw [headB_iff, hat 12 (by omega), e12, htake]
    refine ⟨hlen2, ?_, ?_, hl, hl2, ?_⟩
    · have : (topL seq l).take 4 = ((topL seq l).take 248).take 4 := by rw [List.take_take]; rfl
      rw [this, htake, e]; rfl
    · have : topL seq l = (headL seq l ++ fixL (crcL (headL seq l ++ joinB (l.map (·.2))))) ++ cdxe := by unfold topL; rw [List.append_assoc]
      rw [this, show 252 = (headL seq l ++ fixL (crcL (headL seq l ++ joinB (l.map (·.2))))).length by rw [List.length_append, hlen, fixL_len], List.drop_left]
    · rw [takeB_iff]
      intro i hi
      rw [nmAt_drop]
      refine ⟨fun h => ?_, fun h => ez i h⟩
      rw [eb i h]
      have := hb l[i] (List.getElem_mem h)
      omega
  · unfold seqOf; rw [hat 4 (by omega), hat 8 (by omega), e4, e8]; omega
  · unfold blocksOf
    rw [hat 12 (by omega), e12]
    apply List.ext_getElem
    · simp
    · intro i h1 h2
      have h3 : i < l.length := by simpa using h2
      simp only [List.getElem_map, List.getElem_range]
      rw [hat _ (by omega), eb i h3]
      have := hb l[i] (List.getElem_mem h3)
      omega

/-- What was packed is unpacked as it was, whatever stands behind. -/
theorem unp_pack (seq : Nat) (l : List (Int × ByteArray)) (more : List ByteArray) (hseq : seq < 18446744073709551616) (hl : 1 ≤ l.length) (hl2 : l.length ≤ 48) (hw : ∀ x ∈ l, WrOk x) :
    unp (packL seq l ++ more) = (seq, l, 0) := by
  obtain ⟨h1, h2, h3, h4, h5, h6⟩ := top_parts seq l hseq hl hl2 hw
  have ht : (l.map (·.2) ++ more).take l.length = l.map (·.2) := by
    have e : l.length = (l.map (·.2)).length := by simp
    rw [e, List.take_left]
  have e0 : packL seq l ++ more = bs (topL seq l) :: (l.map (·.2) ++ more) := rfl
  rw [e0, unp_cons]
  rw [if_pos, if_pos]
  · rw [data_bs, h2, h3, h4, ht]
    refine Prod.ext rfl (Prod.ext ?_ rfl)
    show (l.map (·.1)).zip (l.map (·.2)) = l
    rw [List.zip_map']; simp
  · unfold sumB
    rw [data_bs, h2, h5, h6, ht]; simp
  · rw [formB_iff, data_bs, h2, ht]
    refine ⟨h1, by simp, fun d hd => ?_⟩
    obtain ⟨x, hx, rfl⟩ := List.mem_map.1 hd
    exact (hw x hx).2.2
theorem hd_pack (seq : Nat) (l : List (Int × ByteArray)) (hseq : seq < 18446744073709551616) (hl : 1 ≤ l.length) (hl2 : l.length ≤ 48) (hw : ∀ x ∈ l, WrOk x) :
    hd (bs (topL seq l)) = (seq, l.length, true) := by
  obtain ⟨h1, h2, h3, _⟩ := top_parts seq l hseq hl hl2 hw
  unfold hd
  rw [data_bs, if_pos h1, h2, h3]
/-- One that is cut short is none. -/
theorem unp_short (seq : Nat) (l : List (Int × ByteArray)) (j : Nat) (hseq : seq < 18446744073709551616) (hl : 1 ≤ l.length) (hl2 : l.length ≤ 48) (hw : ∀ x ∈ l, WrOk x) (hj : j ≤ l.length) :
    unp ((packL seq l).take j) = (0, [], 7) := by
  obtain ⟨h1, h2, h3, _⟩ := top_parts seq l hseq hl hl2 hw
  cases j with
  | zero => rfl
  | succ j =>
    show (if formB (bs (topL seq l)) ((l.map (·.2)).take j) = true then _ else _) = _
    rw [if_neg]
    rw [formB_iff, data_bs, h2]
    rintro ⟨_, h, _⟩
    rw [List.length_take, List.length_map] at h
    omega
end Go.Proofs.Ytodfcbpimglhdaa.Fr
