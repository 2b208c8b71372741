/- The sum of bytes, and numbers and texts as bytes, in plain numbers and lists: nothing of the program is walked here. -/
import Derived.WalkKit

namespace Go.Proofs.Ytjfclpicoamfaaa.Fr
def cStep (c : Nat) : Nat := if c % 2 = 1 then c / 2 ^^^ 3988292384 else c / 2
def cIter : Nat -> Nat -> Nat
 | 0, c => c
 | n + 1, c => cIter n (cStep c)
def addB (c : Nat) (b : UInt8) : Nat := cIter 8 (c ^^^ b.toNat)
def crcRaw (c : Nat) (l : List UInt8) : Nat := l.foldl addB c
def crcL (l : List UInt8) : Nat := crcRaw 4294967295 l ^^^ 4294967295
theorem byte_lt (b : UInt8) : b.toNat < 256 := b.toNat_lt
end Go.Proofs.Ytjfclpicoamfaaa.Fr
/- Numbers and texts as bytes, in plain numbers and lists: what is written, what is read; nothing of the program is walked here. -/
namespace Go.Proofs.Ytjfclpicoamfaaa.Fr
def varL (v : Nat) : List UInt8 := if v < 128 then [UInt8.ofNat v] else UInt8.ofNat (v % 128 + 128) :: varL (v / 128)
termination_by v
decreasing_by omega
def valL : List UInt8 -> Nat
 | [] => 0
 | b :: t => b.toNat % 128 + 128 * valL t
def vsz : Nat -> List UInt8 -> Nat
 | _, [] => 0
 | i, b :: t => if 10 <= i then 0 else if 128 <= b.toNat then vsz (i + 1) t else if (0 < i /\ b.toNat = 0) \/ (i = 9 /\ 1 < b.toNat) then 0 else i + 1
def rdV (l : List UInt8) : Option (Nat × List UInt8) := if vsz 0 l = 0 then none else some (valL (l.take (vsz 0 l)), l.drop (vsz 0 l))
def textL (t : List UInt8) : List UInt8 := varL t.length ++ t
def rdT (l : List UInt8) : Option (List UInt8 × List UInt8) :=
 match rdV l with
 | none => none
 | some (n, r) => if n <= r.length then some (r.take n, r.drop n) else none
theorem varL_lo (v : Nat) (h : v < 128) : varL v = [UInt8.ofNat v] := by rw [varL, if_pos h]
theorem varL_hi (v : Nat) (h : 128 <= v) : varL v = UInt8.ofNat (v % 128 + 128) :: varL (v / 128) := by rw [varL, if_neg (by omega)]
theorem toNat_of (n : Nat) (h : n < 256) : (UInt8.ofNat n).toNat = n := by rw [UInt8.toNat_ofNat']; exact Nat.mod_eq_of_lt h
theorem varL_len (v : Nat) : 1 <= (varL v).length := by
 by_cases h : v < 128
 ·rw [varL_lo v h]; simp
 ·rw [varL_hi v (by omega)]; simp
theorem valL_varL (v : Nat) : valL (varL v) = v := by
 induction v using Nat.strongRecOn with
 | ind v ih =>
  by_cases h : v < 128
  ·rw [varL_lo v h]; simp only [valL]; rw [toNat_of v (by omega)]; omega
  ·rw [varL_hi v (by omega)]; simp only [valL]; rw [ih (v / 128) (by omega), toNat_of _ (by omega)]; omega
theorem pow_part (i : Nat) (h : i <= 8) : 2 ^ (64 - 7 * i) = 2 ^ (64 - 7 * (i + 1)) * 128 := by
 have e : 64 - 7 * i = 64 - 7 * (i + 1) + 7 := by omega
 rw [e, Nat.pow_add]
theorem pow_small (i : Nat) (h : 9 <= i) (h2 : i <= 9) : 2 ^ (64 - 7 * i) = 2 := by
 have e : i = 9 := by omega
 subst e; rfl
theorem vsz_varL (v : Nat) (s : List UInt8) (i : Nat) (hi : i <= 9) (hv : v < 2 ^ (64 - 7 * i)) (h0 : 0 < i -> 0 < v) : vsz i (varL v ++ s) = i + (varL v).length := by
 induction v using Nat.strongRecOn generalizing i with
 | ind v ih =>
  by_cases h : v < 128
  ·rw [varL_lo v h]
   simp only [List.cons_append, List.nil_append, vsz]
   rw [toNat_of v (by omega), if_neg (by omega), if_neg (by omega), if_neg]
   ·rfl
   ·intro hh
    rcases hh with ⟨h1, h2⟩ | ⟨h1, h2⟩
    ·have := h0 h1; omega
    ·have := pow_small i (by omega) (by omega); omega
  ·have hi8 : i <= 8 := by
    apply Decidable.byContradiction
    intro hh
    have := pow_small i (by omega) (by omega); omega
   have hp := pow_part i hi8
   have hq : v / 128 < 2 ^ (64 - 7 * (i + 1)) := by rw [hp] at hv; omega
   rw [varL_hi v (by omega)]
   simp only [List.cons_append, vsz, List.length_cons]
   rw [toNat_of _ (by omega), if_neg (by omega), if_pos (by omega), ih (v / 128) (by omega) (i + 1) (by omega) hq (fun _ => by omega)]
   omega
theorem vsz_some (l : List UInt8) (i : Nat) (hi : i <= 10) (h : vsz i l ≠ 0) :
  ∃ m, vsz i l = i + m /\ 1 <= m /\ m <= l.length /\ i + m <= 10 /\ varL (valL (l.take m)) = l.take m /\ valL (l.take m) < 2 ^ (64 - 7 * i) /\ (0 < i -> 0 < valL (l.take m)) := by
 induction l generalizing i with
 | nil => exact absurd rfl h
 | cons b t ih =>
  simp only [vsz] at h ⊢
  by_cases h10 : 10 <= i
  ·rw [if_pos h10] at h; exact absurd rfl h
  ·rw [if_neg h10] at h ⊢
   by_cases hb : 128 <= b.toNat
   ·rw [if_pos hb] at h ⊢
    obtain ⟨m, e, h1, h2, h3, h4, h5, h6⟩ := ih (i + 1) (by omega) h
    have h7 := h6 (by omega)
    have hlt := byte_lt b
    have hp := pow_part i (by omega)
    refine ⟨m + 1, by omega, by omega, by simp; omega, by omega, ?_, ?_, ?_⟩
    ·rw [List.take_succ_cons]
     simp only [valL]
     rw [varL_hi _ (by omega)]
     have e1 : (b.toNat % 128 + 128 * valL (t.take m)) % 128 + 128 = b.toNat := by omega
     have e2 : (b.toNat % 128 + 128 * valL (t.take m)) / 128 = valL (t.take m) := by omega
     rw [e1, e2, h4, UInt8.ofNat_toNat]
    ·rw [List.take_succ_cons]; simp only [valL]; rw [hp]; omega
    ·intro _; rw [List.take_succ_cons]; simp only [valL]; omega
   ·rw [if_neg hb] at h ⊢
    by_cases hc : (0 < i /\ b.toNat = 0) \/ (i = 9 /\ 1 < b.toNat)
    ·rw [if_pos hc] at h; exact absurd rfl h
    ·rw [if_neg hc]
     refine ⟨1, rfl, Nat.le_refl _, by simp, by omega, ?_, ?_, ?_⟩
     ·rw [List.take_succ_cons, List.take_zero]
      simp only [valL]
      rw [varL_lo _ (by omega), show b.toNat % 128 + 128 * 0 = b.toNat by omega, UInt8.ofNat_toNat]
     ·rw [List.take_succ_cons, List.take_zero]
      simp only [valL]
      by_cases h9 : i = 9
      ·have := pow_small i (by omega) (by omega); omega
      ·have hp : 2 ^ 7 <= 2 ^ (64 - 7 * i) := Nat.pow_le_pow_right (by omega) (by omega)
       omega
     ·intro hi0
      rw [List.take_succ_cons, List.take_zero]
      simp only [valL]
      omega
theorem vsz_step (l : List UInt8) (k : Nat) (h : k < l.length) (hk : k < 10) (hb : 128 <= (l[k]).toNat) : vsz k (l.drop k) = vsz (k + 1) (l.drop (k + 1)) := by
 rw [List.drop_eq_getElem_cons h]
 simp only [vsz]
 rw [if_neg (by omega), if_pos hb]
theorem vsz_last (l : List UInt8) (k : Nat) (h : k < l.length) (hk : k < 10) (hb : (l[k]).toNat < 128) : vsz k (l.drop k) = if (0 < k /\ (l[k]).toNat = 0) \/ (k = 9 /\ 1 < (l[k]).toNat) then 0 else k + 1 := by
 rw [List.drop_eq_getElem_cons h]
 simp only [vsz]
 rw [if_neg (by omega), if_neg (by omega)]
theorem vsz_end (l : List UInt8) (k : Nat) (h : l.length <= k \/ 10 <= k) : vsz k (l.drop k) = 0 := by
 by_cases hl : l.length <= k
 ·rw [List.drop_of_length_le hl]; rfl
 ·rw [List.drop_eq_getElem_cons (by omega)]
  simp only [vsz]
  rw [if_pos (by omega)]
theorem rdV_varL (v : Nat) (s : List UInt8) (h : v < 18446744073709551616) : rdV (varL v ++ s) = some (v, s) := by
 have e := vsz_varL v s 0 (by omega) h (fun hh => by omega)
 have hl := varL_len v
 unfold rdV
 rw [e, Nat.zero_add, if_neg (by omega), List.take_left, List.drop_left, valL_varL]
theorem rdV_some {l : List UInt8} {v : Nat} {r : List UInt8} (h : rdV l = some (v, r)) : varL v ++ r = l /\ v < 18446744073709551616 /\ vsz 0 l ≠ 0 /\ vsz 0 l <= l.length /\ vsz 0 l <= 10 /\ v = valL (l.take (vsz 0 l)) /\ r = l.drop (vsz 0 l) := by
 unfold rdV at h
 by_cases hz : vsz 0 l = 0
 ·rw [if_pos hz] at h; cases h
 ·rw [if_neg hz] at h
  obtain ⟨m, e, h1, h2, h3, h4, h5, _⟩ := vsz_some l 0 (by omega) hz
  rw [e, Nat.zero_add] at h ⊢
  cases h
  exact ⟨by rw [h4, List.take_append_drop], h5, by omega, h2, by omega, rfl, rfl⟩
theorem rdV_none {l : List UInt8} (h : rdV l = none) : vsz 0 l = 0 := by
 unfold rdV at h
 by_cases hz : vsz 0 l = 0
 ·exact hz
 ·rw [if_neg hz] at h; cases h
theorem rdT_textL (t s : List UInt8) (h : t.length < 18446744073709551616) : rdT (textL t ++ s) = some (t, s) := by
 unfold rdT textL
 rw [List.append_assoc, rdV_varL _ _ h]
 simp
theorem rdT_some {l t r : List UInt8} (h : rdT l = some (t, r)) : textL t ++ r = l := by
 unfold rdT at h
 cases hv : rdV l with
 | none => rw [hv] at h; cases h
 | some p =>
  obtain ⟨n, q⟩ := p
  rw [hv] at h
  simp only at h
  by_cases hn : n <= q.length
  ·rw [if_pos hn] at h
   cases h
   have e := (rdV_some hv).1
   unfold textL
   rw [List.length_take, Nat.min_eq_left hn, List.append_assoc, List.take_append_drop, e]
  ·rw [if_neg hn] at h; cases h
theorem valL_snoc (l : List UInt8) (b : UInt8) : valL (l ++ [b]) = valL l + (b.toNat % 128) * 128 ^ l.length := by
 induction l with
 | nil => simp [valL]
 | cons c l ih =>
  simp only [List.cons_append, valL, ih, List.length_cons, Nat.pow_succ]
  rw [Nat.mul_add, <- Nat.mul_assoc, Nat.mul_comm 128 (b.toNat % 128), Nat.mul_assoc, Nat.mul_comm 128 (128 ^ l.length)]
  omega
theorem valL_lt (l : List UInt8) : valL l < 128 ^ l.length := by
 induction l with
 | nil => simp [valL]
 | cons c l ih => simp only [valL, List.length_cons, Nat.pow_succ]; omega
def fixL (v : Nat) : List UInt8 := [UInt8.ofNat v, UInt8.ofNat (v / 256), UInt8.ofNat (v / 65536), UInt8.ofNat (v / 16777216)]
def unfix (a b c d : UInt8) : Nat := a.toNat + 256 * b.toNat + 65536 * c.toNat + 16777216 * d.toNat
end Go.Proofs.Ytjfclpicoamfaaa.Fr
/- Directories in plain lists: when they are right, their bytes, and how these are read. -/
namespace Go.Proofs.Ytjfclpicoamfaaa
open Go.RowKit
open Fr (varL rdV textL rdT fixL unfix crcL rdV_varL rdV_some rdT_textL rdT_some varL_len)
structure Fl where
 name : ByteArray
 shut : Bool
 size : Int
 ext : List (Int × Int)
def okByte (c : UInt8) : Bool := (decide (97 <= c.toNat) && decide (c.toNat <= 122)) || (decide (48 <= c.toNat) && decide (c.toNat <= 57)) || decide (c.toNat = 46) || decide (c.toNat = 45) || decide (c.toNat = 95)
def okName (s : ByteArray) : Bool := decide (1 <= s.size) && decide (s.size <= 24) && s.data.toList.all okByte
def less (s t : ByteArray) : Bool := Op.bytesLess s.toList t.toList
theorem bl_irr (a : List UInt8) : Op.bytesLess a a = false := by
 induction a with
 | nil => rfl
 | cons x r ih => simp [Op.bytesLess, ih]
theorem bl_trans (a b c : List UInt8) (h1 : Op.bytesLess a b = true) (h2 : Op.bytesLess b c = true) : Op.bytesLess a c = true := by
 induction a generalizing b c with
 | nil =>
  cases c with
  | nil => cases b <;> simp [Op.bytesLess] at h2
  | cons _ _ => rfl
 | cons x r ih =>
  cases b with
  | nil => simp [Op.bytesLess] at h1
  | cons y q =>
   cases c with
   | nil => simp [Op.bytesLess] at h2
   | cons z p =>
    simp only [Op.bytesLess, Bool.or_eq_true, Bool.and_eq_true, decide_eq_true_eq, beq_iff_eq] at h1 h2 ⊢
    rcases h1 with h1 | ⟨rfl, h1⟩
    ·rcases h2 with h2 | ⟨rfl, _⟩
     ·exact .inl (UInt8.lt_trans h1 h2)
     ·exact .inl h1
    ·rcases h2 with h2 | ⟨rfl, h2⟩
     ·exact .inl h2
     ·exact .inr ⟨rfl, ih q p h1 h2⟩
theorem bl_total (a b : List UInt8) (h1 : Op.bytesLess a b = false) (h2 : Op.bytesLess b a = false) : a = b := by
 induction a generalizing b with
 | nil => cases b with
  | nil => rfl
  | cons _ _ => simp [Op.bytesLess] at h1
 | cons x r ih => cases b with
  | nil => simp [Op.bytesLess] at h2
  | cons y q =>
   simp only [Op.bytesLess, Bool.or_eq_false_iff, Bool.and_eq_false_iff, decide_eq_false_iff_not, beq_eq_false_iff_ne, ne_eq] at h1 h2
   have hxy : x = y := by
    have := h1.1; have := h2.1
    apply UInt8.toNat_inj.1
    simp only [UInt8.lt_iff_toNat_lt] at *
    omega
   subst hxy
   rcases h1.2 with h | h
   ·exact absurd rfl h
   ·rcases h2.2 with h' | h'
    ·exact absurd rfl h'
    ·rw [ih q h h']
theorem less_irr (s : ByteArray) : less s s = false := bl_irr _
theorem less_trans {a b c : ByteArray} (h1 : less a b = true) (h2 : less b c = true) : less a c = true := bl_trans _ _ _ h1 h2
theorem toList_inj {s t : ByteArray} (h : s.toList = t.toList) : s = t := by
 rw [ByteArray.toList_eq, ByteArray.toList_eq] at h
 apply ByteArray.ext
 exact Array.ext' h
theorem less_total {a b : ByteArray} (h1 : less a b = false) (h2 : less b a = false) : a = b := toList_inj (bl_total _ _ h1 h2)
theorem less_asymm {a b : ByteArray} (h : less a b = true) : less b a = false := by
 cases e : less b a with
 | false => rfl
 | true => have := less_trans h e; rw [less_irr] at this; cases this
theorem le_less {a b c : ByteArray} (h1 : less b a = false) (h2 : less b c = true) : less a c = true := by
 cases e : less a b with
 | true => exact less_trans e h2
 | false => rw [less_total e h1]; exact h2
def need (size : Int) : Int := (size + 255) / 256
def sumC (E : List (Int × Int)) : Int := (E.map (·.2)).sum
theorem sumC_cons (x : Int × Int) (F : List (Int × Int)) : sumC (x :: F) = x.2 + sumC F := by simp [sumC]
structure Filled (f : Fl) : Prop where
 size : 0 <= f.size
 few : f.ext.length <= 16
 some : ∀ x ∈ f.ext, 1 <= x.2
 sum : sumC f.ext = need f.size
structure Among (x : Int × Int) (a b : Int) : Prop where
 lo : a <= x.1
 hi : x.1 < b
 fit : x.2 <= b - x.1
def Apart (x y : Int × Int) : Prop := x.1 + x.2 <= y.1 \/ y.1 + y.2 <= x.1
theorem Apart.symm {x y : Int × Int} (h : Apart x y) : Apart y x := Or.symm h
def allE (L : List Fl) : List (Int × Int) := L.flatMap (·.ext)
theorem allE_append (L M : List Fl) : allE (L ++ M) = allE L ++ allE M := by simp [allE]
structure Right0 (L : List Fl) (a b : Int) : Prop where
 names : ∀ f ∈ L, okName f.name = true
 rise : L.Pairwise fun f g => less f.name g.name = true
 filled : ∀ f ∈ L, Filled f
 among : ∀ x ∈ allE L, Among x a b
 apart : (allE L).Pairwise Apart
def RightP (L : List Fl) (a b : Int) : Prop := L.length <= 64 /\ Right0 L a b
theorem Right0.nil (a b : Int) : Right0 [] a b := ⟨by simp, by simp, by simp, by simp [allE], by simp [allE]⟩
theorem Right0.left {L M : List Fl} {a b : Int} (h : Right0 (L ++ M) a b) : Right0 L a b := by
 refine ⟨fun f hf => h.names f (by simp [hf]), (List.pairwise_append.1 h.rise).1, fun f hf => h.filled f (by simp [hf]), fun x hx => h.among x (by rw [allE_append]; simp [hx]), ?_⟩
 have := h.apart
 rw [allE_append] at this
 exact (List.pairwise_append.1 this).1
def extL (x : Int × Int) : List UInt8 := varL x.1.toNat ++ varL x.2.toNat
def fileL (f : Fl) : List UInt8 := textL f.name.data.toList ++ varL (if f.shut then 1 else 0) ++ varL f.size.toNat ++ varL f.ext.length ++ f.ext.flatMap extL
def dirL (L : List Fl) : List UInt8 := [67, 68, 88, 73] ++ varL L.length ++ L.flatMap fileL
def packL (L : List Fl) : List UInt8 := dirL L ++ fixL (crcL (dirL L))
def packed (L : List Fl) : List UInt8 := packL L ++ List.replicate (3072 - (packL L).length) 0
structure Small (f : Fl) : Prop where
 name : f.name.size <= 1000000
 size : 0 <= f.size /\ f.size <= 2147483647
 few : f.ext.length <= 16
 ext : ∀ x ∈ f.ext, 0 <= x.1 /\ x.1 <= 4096 /\ 0 <= x.2 /\ x.2 <= 4096
theorem RightP.small {L : List Fl} (h : RightP L 0 4096) : ∀ f ∈ L, Small f := by
 intro f hf
 have hF := h.2.filled f hf
 have ha : ∀ x ∈ f.ext, Among x 0 4096 := fun x hx => h.2.among x (by unfold allE; exact List.mem_flatMap.2 ⟨f, hf, hx⟩)
 have hn := h.2.names f hf
 unfold okName at hn
 simp only [Bool.and_eq_true, decide_eq_true_eq] at hn
 have hb : ∀ x ∈ f.ext, 0 <= x.1 /\ x.1 <= 4096 /\ 0 <= x.2 /\ x.2 <= 4096 := fun x hx => by
  have h1 := (ha x hx).lo; have h2 := (ha x hx).hi; have h3 := (ha x hx).fit; have h4 := hF.some x hx
  omega
 have hs : ∀ E : List (Int × Int), (∀ x ∈ E, x.2 <= 4096) -> sumC E <= 4096 * E.length := by
  intro E
  induction E with
  | nil => intro _; simp [sumC]
  | cons x r ih =>
   intro h
   have h1 := h x (by simp)
   have h2 := ih fun y hy => h y (by simp [hy])
   rw [sumC_cons, List.length_cons]
   omega
 have h5 := hs f.ext fun x hx => (hb x hx).2.2.2
 have h6 := hF.sum
 have h7 := hF.few
 unfold need at h6
 exact ⟨by omega, ⟨hF.size, by omega⟩, h7, hb⟩
end Go.Proofs.Ytjfclpicoamfaaa
