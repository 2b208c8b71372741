/- The sum of bytes, and numbers and texts as bytes, in plain numbers and lists: nothing of the program is walked here. -/
import Derived.WalkKit

namespace Go.Proofs.Ytjcajeilhcjneaa.Fr
theorem byte_lt (b : UInt8) : b.toNat < 256 := b.toNat_lt
end Go.Proofs.Ytjcajeilhcjneaa.Fr
/- Numbers and texts as bytes, in plain numbers and lists: what is written, what is read; nothing of the program is walked here. -/
namespace Go.Proofs.Ytjcajeilhcjneaa.Fr
def varL (v : Nat) : List UInt8 := if v < 128 then [UInt8.ofNat v] else UInt8.ofNat (v % 128 + 128) :: varL (v / 128)
termination_by v
decreasing_by omega
def valL : List UInt8 -> Nat
 | [] => 0
 | b :: t => b.toNat % 128 + 128 * valL t
def vsz : Nat -> List UInt8 -> Nat
 | _, [] => 0
 | i, b :: t => if 10 <= i then 0 else if 128 <= b.toNat then vsz (i + 1) t else if (0 < i /\ b.toNat = 0) \/ (i = 9 /\ 1 < b.toNat) then 0 else i + 1
def rdV (l : List UInt8) : Option (Nat × List UInt8) := if vsz 0 l = 0 then none else some (valL (l.take (vsz 0 l)), l.drop (vsz 0 l))
theorem varL_lo (v : Nat) (h : v < 128) : varL v = [UInt8.ofNat v] := by rw [varL, if_pos h]
theorem varL_hi (v : Nat) (h : 128 <= v) : varL v = UInt8.ofNat (v % 128 + 128) :: varL (v / 128) := by rw [varL, if_neg (by omega)]
theorem toNat_of (n : Nat) (h : n < 256) : (UInt8.ofNat n).toNat = n := by rw [UInt8.toNat_ofNat']; exact Nat.mod_eq_of_lt h
theorem varL_len (v : Nat) : 1 <= (varL v).length := by
 by_cases h : v < 128
 ·rw [varL_lo v h]; simp
 ·rw [varL_hi v (by omega)]; simp
theorem valL_varL (v : Nat) : valL (varL v) = v := by
 induction v using Nat.strongRecOn with
 | ind v ih =>
  by_cases h : v < 128
  ·rw [varL_lo v h]; simp only [valL]; rw [toNat_of v (by omega)]; omega
  ·rw [varL_hi v (by omega)]; simp only [valL]; rw [ih (v / 128) (by omega), toNat_of _ (by omega)]; omega
theorem pow_part (i : Nat) (h : i <= 8) : 2 ^ (64 - 7 * i) = 2 ^ (64 - 7 * (i + 1)) * 128 := by
 have e : 64 - 7 * i = 64 - 7 * (i + 1) + 7 := by omega
 rw [e, Nat.pow_add]
theorem pow_small (i : Nat) (h : 9 <= i) (h2 : i <= 9) : 2 ^ (64 - 7 * i) = 2 := by
 have e : i = 9 := by omega
 subst e; rfl
theorem vsz_varL (v : Nat) (s : List UInt8) (i : Nat) (hi : i <= 9) (hv : v < 2 ^ (64 - 7 * i)) (h0 : 0 < i -> 0 < v) : vsz i (varL v ++ s) = i + (varL v).length := by
 induction v using Nat.strongRecOn generalizing i with
 | ind v ih =>
  by_cases h : v < 128
  ·rw [varL_lo v h]
   simp only [List.cons_append, List.nil_append, vsz]
   rw [toNat_of v (by omega), if_neg (by omega), if_neg (by omega), if_neg]
   ·rfl
   ·intro hh
    rcases hh with ⟨h1, h2⟩ | ⟨h1, h2⟩
    ·have := h0 h1; omega
    ·have := pow_small i (by omega) (by omega); omega
  ·have hi8 : i <= 8 := by
    apply Decidable.byContradiction
    intro hh
    have := pow_small i (by omega) (by omega); omega
   have hp := pow_part i hi8
   have hq : v / 128 < 2 ^ (64 - 7 * (i + 1)) := by rw [hp] at hv; omega
   rw [varL_hi v (by omega)]
   simp only [List.cons_append, vsz, List.length_cons]
   rw [toNat_of _ (by omega), if_neg (by omega), if_pos (by omega), ih (v / 128) (by omega) (i + 1) (by omega) hq (fun _ => by omega)]
   omega
theorem vsz_some (l : List UInt8) (i : Nat) (hi : i <= 10) (h : vsz i l ≠ 0) :
  ∃ m, vsz i l = i + m /\ 1 <= m /\ m <= l.length /\ i + m <= 10 /\ varL (valL (l.take m)) = l.take m /\ valL (l.take m) < 2 ^ (64 - 7 * i) /\ (0 < i -> 0 < valL (l.take m)) := by
 induction l generalizing i with
 | nil => exact absurd rfl h
 | cons b t ih =>
  simp only [vsz] at h ⊢
  by_cases h10 : 10 <= i
  ·rw [if_pos h10] at h; exact absurd rfl h
  ·rw [if_neg h10] at h ⊢
   by_cases hb : 128 <= b.toNat
   ·rw [if_pos hb] at h ⊢
    obtain ⟨m, e, h1, h2, h3, h4, h5, h6⟩ := ih (i + 1) (by omega) h
    have h7 := h6 (by omega)
    have hlt := byte_lt b
    have hp := pow_part i (by omega)
    refine ⟨m + 1, by omega, by omega, by simp; omega, by omega, ?_, ?_, ?_⟩
    ·rw [List.take_succ_cons]
     simp only [valL]
     rw [varL_hi _ (by omega)]
     have e1 : (b.toNat % 128 + 128 * valL (t.take m)) % 128 + 128 = b.toNat := by omega
     have e2 : (b.toNat % 128 + 128 * valL (t.take m)) / 128 = valL (t.take m) := by omega
     rw [e1, e2, h4, UInt8.ofNat_toNat]
    ·rw [List.take_succ_cons]; simp only [valL]; rw [hp]; omega
    ·intro _; rw [List.take_succ_cons]; simp only [valL]; omega
   ·rw [if_neg hb] at h ⊢
    by_cases hc : (0 < i /\ b.toNat = 0) \/ (i = 9 /\ 1 < b.toNat)
    ·rw [if_pos hc] at h; exact absurd rfl h
    ·rw [if_neg hc]
     refine ⟨1, rfl, Nat.le_refl _, by simp, by omega, ?_, ?_, ?_⟩
     ·rw [List.take_succ_cons, List.take_zero]
      simp only [valL]
      rw [varL_lo _ (by omega), show b.toNat % 128 + 128 * 0 = b.toNat by omega, UInt8.ofNat_toNat]
     ·rw [List.take_succ_cons, List.take_zero]
      simp only [valL]
      by_cases h9 : i = 9
      ·have := pow_small i (by omega) (by omega); omega
      ·have hp : 2 ^ 7 <= 2 ^ (64 - 7 * i) := Nat.pow_le_pow_right (by omega) (by omega)
       omega
     ·intro hi0
      rw [List.take_succ_cons, List.take_zero]
      simp only [valL]
      omega
theorem vsz_step (l : List UInt8) (k : Nat) (h : k < l.length) (hk : k < 10) (hb : 128 <= (l[k]).toNat) : vsz k (l.drop k) = vsz (k + 1) (l.drop (k + 1)) := by
 rw [List.drop_eq_getElem_cons h]
 simp only [vsz]
 rw [if_neg (by omega), if_pos hb]
theorem vsz_last (l : List UInt8) (k : Nat) (h : k < l.length) (hk : k < 10) (hb : (l[k]).toNat < 128) : vsz k (l.drop k) = if (0 < k /\ (l[k]).toNat = 0) \/ (k = 9 /\ 1 < (l[k]).toNat) then 0 else k + 1 := by
 rw [List.drop_eq_getElem_cons h]
 simp only [vsz]
 rw [if_neg (by omega), if_neg (by omega)]
theorem vsz_end (l : List UInt8) (k : Nat) (h : l.length <= k \/ 10 <= k) : vsz k (l.drop k) = 0 := by
 by_cases hl : l.length <= k
 ·rw [List.drop_of_length_le hl]; rfl
 ·rw [List.drop_eq_getElem_cons (by omega)]
  simp only [vsz]
  rw [if_pos (by omega)]
theorem rdV_varL (v : Nat) (s : List UInt8) (h : v < 18446744073709551616) : rdV (varL v ++ s) = some (v, s) := by
 have e := vsz_varL v s 0 (by omega) h (fun hh => by omega)
 have hl := varL_len v
 unfold rdV
 rw [e, Nat.zero_add, if_neg (by omega), List.take_left, List.drop_left, valL_varL]
theorem rdV_some {l : List UInt8} {v : Nat} {r : List UInt8} (h : rdV l = some (v, r)) : varL v ++ r = l /\ v < 18446744073709551616 /\ vsz 0 l ≠ 0 /\ vsz 0 l <= l.length /\ vsz 0 l <= 10 /\ v = valL (l.take (vsz 0 l)) /\ r = l.drop (vsz 0 l) := by
 unfold rdV at h
 by_cases hz : vsz 0 l = 0
 ·rw [if_pos hz] at h; cases h
 ·rw [if_neg hz] at h
  obtain ⟨m, e, h1, h2, h3, h4, h5, _⟩ := vsz_some l 0 (by omega) hz
  rw [e, Nat.zero_add] at h ⊢
  cases h
  exact ⟨by rw [h4, List.take_append_drop], h5, by omega, h2, by omega, rfl, rfl⟩
theorem rdV_none {l : List UInt8} (h : rdV l = none) : vsz 0 l = 0 := by
 unfold rdV at h
 by_cases hz : vsz 0 l = 0
 ·exact hz
 ·rw [if_neg hz] at h; cases h
theorem valL_snoc (l : List UInt8) (b : UInt8) : valL (l ++ [b]) = valL l + (b.toNat % 128) * 128 ^ l.length := by
 induction l with
 | nil => simp [valL]
 | cons c l ih =>
  simp only [List.cons_append, valL, ih, List.length_cons, Nat.pow_succ]
  rw [Nat.mul_add, <- Nat.mul_assoc, Nat.mul_comm 128 (b.toNat % 128), Nat.mul_assoc, Nat.mul_comm 128 (128 ^ l.length)]
  omega
theorem valL_lt (l : List UInt8) : valL l < 128 ^ l.length := by
 induction l with
 | nil => simp [valL]
 | cons c l ih => simp only [valL, List.length_cons, Nat.pow_succ]; omega
def unfix (a b c d : UInt8) : Nat := a.toNat + 256 * b.toNat + 65536 * c.toNat + 16777216 * d.toNat
end Go.Proofs.Ytjcajeilhcjneaa.Fr
/- Postings in plain lists: when a list is right, its bytes, how they are read. -/
namespace Go.Proofs.Ytjcajeilhcjneaa.Po
open Fr (varL rdV rdV_varL rdV_some)
structure Pg where
 doc : Int
 pos : List Int
deriving DecidableEq
def Rise (l : List Int) (b : Int) : Prop := (∀ x ∈ l, 0 <= x /\ x < b) /\ l.Pairwise (· < ·)
instance (l : List Int) (b : Int) : Decidable (Rise l b) := inferInstanceAs (Decidable (_ /\ _))
def RightG (L : List Pg) : Prop := (∀ p ∈ L, Rise p.pos 2000 /\ p.pos ≠ []) /\ Rise (L.map Pg.doc) 500
instance (L : List Pg) : Decidable (RightG L) := inferInstanceAs (Decidable (_ /\ _))
def gapL : Int -> List Int -> List UInt8
 | _, [] => []
 | a, x :: r => varL (x - a).toNat ++ gapL x r
def oneP (a : Int) (p : Pg) : List UInt8 := varL (p.doc - a).toNat ++ (varL p.pos.length ++ gapL (-1) p.pos)
def allP : Int -> List Pg -> List UInt8
 | _, [] => []
 | a, p :: r => oneP a p ++ allP p.doc r
def lastD : Int -> List Pg -> Int
 | a, [] => a
 | _, p :: r => lastD p.doc r
def skipP (a : Int) (L : List Pg) : List UInt8 :=
 if 8 < L.length then varL (lastD a (L.take 8) - a).toNat ++ (varL (allP a (L.take 8)).length ++ skipP (lastD a (L.take 8)) (L.drop 8)) else []
termination_by L.length
decreasing_by rw [List.length_drop]; omega
def bytesP (L : List Pg) : List UInt8 := varL L.length ++ (skipP (-1) L ++ allP (-1) L)
def pNum (most : Nat) (l : List UInt8) : Option (Nat × List UInt8) := match rdV l with
 | some (v, r) => if v <= most then some (v, r) else none
 | none => none
def pGaps : Nat -> Int -> List UInt8 -> Option (List Int × List UInt8)
 | 0, _, l => some ([], l)
 | n + 1, a, l => (pNum 2000 l).bind fun x => (pGaps n (a + x.1) x.2).bind fun y => some ((a + x.1) :: y.1, y.2)
def pOne (a : Int) (l : List UInt8) : Option (Pg × List UInt8) :=
 (pNum 500 l).bind fun x => (pNum 2000 x.2).bind fun y => (pGaps y.1 (-1) y.2).bind fun z => some (⟨a + x.1, z.1⟩, z.2)
def pAll : Nat -> Int -> List UInt8 -> Option (List Pg × List UInt8)
 | 0, _, l => some ([], l)
 | n + 1, a, l => (pOne a l).bind fun x => (pAll n x.1.doc x.2).bind fun y => some (x.1 :: y.1, y.2)
def pSkip : Nat -> List UInt8 -> Option (List UInt8)
 | 0, l => some l
 | n + 1, l => (pNum 500 l).bind fun x => (pNum 1073741824 x.2).bind fun y => pSkip n y.2
def pList (l : List UInt8) : Option (List Pg × List UInt8) := (pNum 500 l).bind fun x => (pSkip ((x.1 - 1) / 8) x.2).bind fun y => pAll x.1 (-1) y
def unpP (l : List UInt8) : Option (List Pg) := match pList l with
 | some (L, _) => if RightG L /\ bytesP L = l then some L else none
 | none => none
theorem unp_some {l : List UInt8} {L : List Pg} (h : unpP l = some L) : RightG L /\ bytesP L = l := by
 unfold unpP at h
 split at h
 ·split at h
  ·cases h; assumption
  ·cases h
 ·cases h
theorem pNum_varL (most v : Nat) (s : List UInt8) (h : v <= most) (hm : most < 18446744073709551616) : pNum most (varL v ++ s) = some (v, s) := by
 unfold pNum; rw [rdV_varL v s (by omega)]; simp [h]
def Goes (b : Int) : Int -> List Int -> Prop
 | _, [] => True
 | a, x :: r => a < x /\ x < b /\ Goes b x r
theorem goes_of {b : Int} : ∀ (a : Int) (l : List Int), (∀ x ∈ l, a < x /\ x < b) -> l.Pairwise (· < ·) -> Goes b a l
 | _, [], _, _ => trivial
 | a, x :: r, h1, h2 => by
  obtain ⟨p1, p2⟩ := List.pairwise_cons.1 h2
  exact ⟨(h1 x (by simp)).1, (h1 x (by simp)).2, goes_of x r (fun y hy => ⟨p1 y hy, (h1 y (by simp [hy])).2⟩) p2⟩
theorem rise_goes {l : List Int} {b : Int} (h : Rise l b) : Goes b (-1) l := goes_of (-1) l (fun x hx => ⟨by have := (h.1 x hx).1; omega, (h.1 x hx).2⟩) h.2
theorem goes_len {b : Int} : ∀ (a : Int) (l : List Int), Goes b a l -> a < b -> a + l.length < b
 | a, [], _, h => by simpa using h
 | a, x :: r, h, _ => by
  have := goes_len x r h.2.2 h.2.1
  have := h.1
  rw [List.length_cons]
  omega
theorem rise_len {l : List Int} {b : Int} (h : Rise l b) (hb : 0 <= b) : (l.length : Int) <= b := by
 have := goes_len (-1) l (rise_goes h) (by omega)
 omega
def ChainP : Int -> List Pg -> Prop
 | _, [] => True
 | a, p :: r => a < p.doc /\ p.doc < 500 /\ Rise p.pos 2000 /\ p.pos ≠ [] /\ ChainP p.doc r
theorem chain_of : ∀ (a : Int) (L : List Pg), (∀ p ∈ L, Rise p.pos 2000 /\ p.pos ≠ []) -> Goes 500 a (L.map Pg.doc) -> ChainP a L
 | _, [], _, _ => trivial
 | a, p :: r, h1, h2 => ⟨h2.1, h2.2.1, (h1 p (by simp)).1, (h1 p (by simp)).2, chain_of p.doc r (fun q hq => h1 q (by simp [hq])) h2.2.2⟩
theorem right_chain {L : List Pg} (h : RightG L) : ChainP (-1) L := chain_of (-1) L h.1 (rise_goes h.2)
theorem right_len {L : List Pg} (h : RightG L) : L.length <= 500 := by
 have := rise_len h.2 (by omega)
 rw [List.length_map] at this
 omega
theorem pGaps_back : ∀ (a : Int) (l : List Int) (s : List UInt8), -1 <= a -> Goes 2000 a l -> pGaps l.length a (gapL a l ++ s) = some (l, s)
 | _, [], s, _, _ => rfl
 | a, x :: r, s, h0, h => by
  have e : a + ((x - a).toNat : Int) = x := by have := h.1; omega
  rw [List.length_cons, gapL, List.append_assoc, pGaps, pNum_varL 2000 _ _ (by have := h.1; have := h.2.1; omega) (by omega), Option.bind_some]
  dsimp only
  rw [e, pGaps_back x r s (by have := h.1; omega) h.2.2, Option.bind_some]
theorem pOne_back (a : Int) (p : Pg) (s : List UInt8) (h0 : -1 <= a) (h1 : a < p.doc) (h2 : p.doc < 500) (h3 : Rise p.pos 2000) : pOne a (oneP a p ++ s) = some (p, s) := by
 have e : a + ((p.doc - a).toNat : Int) = p.doc := by omega
 have hl := rise_len h3 (by omega)
 unfold pOne oneP
 rw [List.append_assoc, pNum_varL 500 _ _ (by omega) (by omega), Option.bind_some]
 dsimp only
 rw [List.append_assoc, pNum_varL 2000 _ _ (by omega) (by omega), Option.bind_some]
 dsimp only
 rw [pGaps_back (-1) p.pos s (by omega) (rise_goes h3), Option.bind_some, e]
theorem pAll_back : ∀ (a : Int) (L : List Pg) (s : List UInt8), -1 <= a -> ChainP a L -> pAll L.length a (allP a L ++ s) = some (L, s)
 | _, [], s, _, _ => rfl
 | a, p :: r, s, h0, h => by
  obtain ⟨h1, h2, h3, _, h5⟩ := h
  rw [List.length_cons, allP, List.append_assoc, pAll, pOne_back a p _ h0 h1 h2 h3, Option.bind_some]
  dsimp only
  rw [pAll_back p.doc r s (by omega) h5, Option.bind_some]
theorem varL_short (v : Nat) (h : v < 128) : (varL v).length = 1 := by rw [varL, if_pos h]; rfl
theorem varL_two (v : Nat) (h : v < 16384) : (varL v).length <= 2 := by
 rw [varL]
 split
 ·simp
 ·rw [List.length_cons, varL_short _ (by omega)]; exact Nat.le_refl _
theorem gapL_len : ∀ (a : Int) (l : List Int), -1 <= a -> Goes 2000 a l -> (gapL a l).length <= 2 * l.length
 | _, [], _, _ => Nat.le_refl _
 | a, x :: r, h0, h => by
  have h1 := gapL_len x r (by have := h.1; omega) h.2.2
  have h2 := varL_two (x - a).toNat (by have := h.2.1; omega)
  rw [gapL, List.length_append, List.length_cons]
  omega
theorem oneP_len {a : Int} {p : Pg} (h0 : -1 <= a) (h2 : p.doc < 500) (h3 : Rise p.pos 2000) : (oneP a p).length <= 4 + 2 * p.pos.length := by
 have hl := rise_len h3 (by omega)
 have h4 := gapL_len (-1) p.pos (by omega) (rise_goes h3)
 have h5 := varL_two (p.doc - a).toNat (by omega)
 have h6 := varL_two p.pos.length (by omega)
 unfold oneP
 rw [List.length_append, List.length_append]
 omega
theorem allP_len : ∀ (a : Int) (L : List Pg), -1 <= a -> ChainP a L -> (allP a L).length <= 4004 * L.length
 | _, [], _, _ => Nat.le_refl _
 | a, p :: r, h0, h => by
  have h1 := allP_len p.doc r (by have := h.1; omega) h.2.2.2.2
  have h2 := oneP_len h0 h.2.1 h.2.2.1
  have h3 := rise_len h.2.2.1 (by omega)
  rw [allP, List.length_append, List.length_cons]
  omega
theorem chain_take : ∀ (k : Nat) (a : Int) (L : List Pg), ChainP a L -> ChainP a (L.take k)
 | 0, _, _, _ => trivial
 | _ + 1, _, [], _ => trivial
 | k + 1, _, p :: r, h => ⟨h.1, h.2.1, h.2.2.1, h.2.2.2.1, chain_take k p.doc r h.2.2.2.2⟩
theorem chain_drop : ∀ (k : Nat) (a : Int) (L : List Pg), ChainP a L -> ChainP (lastD a (L.take k)) (L.drop k)
 | 0, _, _, h => h
 | _ + 1, _, [], _ => trivial
 | k + 1, _, p :: r, h => chain_drop k p.doc r h.2.2.2.2
theorem last_ge : ∀ (a : Int) (L : List Pg), ChainP a L -> a <= lastD a L /\ (a < 500 -> lastD a L < 500)
 | a, [], _ => ⟨Int.le_refl a, fun h => h⟩
 | a, p :: r, h => by
  obtain ⟨h1, h2⟩ := last_ge p.doc r h.2.2.2.2
  have := h.1
  exact ⟨by show a <= lastD p.doc r; omega, fun _ => h2 h.2.1⟩
theorem allP_app : ∀ (a : Int) (L M : List Pg), allP a (L ++ M) = allP a L ++ allP (lastD a L) M
 | _, [], _ => rfl
 | a, p :: r, M => by rw [List.cons_append, allP, allP_app p.doc r M, allP, List.append_assoc]; rfl
theorem lastD_app : ∀ (a : Int) (L M : List Pg), lastD a (L ++ M) = lastD (lastD a L) M
 | _, [], _ => rfl
 | _, p :: r, M => lastD_app p.doc r M
theorem pSkip_back : ∀ (k : Nat) (a : Int) (L : List Pg) (s : List UInt8), L.length <= k -> -1 <= a -> a < 500 -> ChainP a L -> pSkip ((L.length - 1) / 8) (skipP a L ++ s) = some s := by
 intro k
 induction k with
 | zero =>
  intro a L s hk _ _ _
  obtain rfl := List.length_eq_zero_iff.1 (show L.length = 0 by omega)
  rw [skipP, if_neg (by simp)]
  rfl
 | succ k ih =>
  intro a L s hk h0 h1 h
  rw [skipP]
  by_cases h8 : 8 < L.length
  ·rw [if_pos h8]
   have ht := chain_take 8 a L h
   have hd := chain_drop 8 a L h
   obtain ⟨g1, g2⟩ := last_ge a _ ht
   have g2 := g2 h1
   have hl := allP_len a _ h0 ht
   rw [List.length_take] at hl
   have e : (L.length - 1) / 8 = ((L.drop 8).length - 1) / 8 + 1 := by rw [List.length_drop]; omega
   rw [e, pSkip, List.append_assoc, pNum_varL 500 _ _ (by omega) (by omega), Option.bind_some]
   dsimp only
   rw [List.append_assoc, pNum_varL 1073741824 _ _ (by omega) (by omega), Option.bind_some]
   exact ih _ _ s (by rw [List.length_drop]; omega) (by omega) g2 hd
  ·rw [if_neg h8, show (L.length - 1) / 8 = 0 by omega]
   rfl
theorem pList_back {L : List Pg} (h : RightG L) : pList (bytesP L) = some (L, []) := by
 have hl := right_len h
 have hc := right_chain h
 unfold pList bytesP
 rw [pNum_varL 500 _ _ hl (by omega), Option.bind_some]
 dsimp only
 rw [pSkip_back _ (-1) L _ (Nat.le_refl _) (by omega) (by omega) hc, Option.bind_some]
 have := pAll_back (-1) L [] (by omega) hc
 rwa [List.append_nil] at this
theorem unp_back {L : List Pg} (h : RightG L) : unpP (bytesP L) = some L := by
 unfold unpP
 rw [pList_back h]
 exact if_pos ⟨h, rfl⟩
theorem unp_iff {l : List UInt8} {L : List Pg} : unpP l = some L ↔ RightG L /\ bytesP L = l :=
 ⟨unp_some, fun ⟨h1, h2⟩ => by rw [<- h2]; exact unp_back h1⟩
theorem bytesP_len {L : List Pg} (h : RightG L) : (bytesP L).length <= 3000000 := by
 have hl := right_len h
 have hc := right_chain h
 have h1 := allP_len (-1) L (by omega) hc
 have h2 := varL_two L.length (by omega)
 have h3 : ∀ (k : Nat) (a : Int) (M : List Pg), M.length <= k -> -1 <= a -> a < 500 -> ChainP a M -> (skipP a M).length <= 12 * M.length := by
  intro k
  induction k with
  | zero =>
   intro a M hk _ _ _
   obtain rfl := List.length_eq_zero_iff.1 (show M.length = 0 by omega)
   rw [skipP, if_neg (by simp)]
   exact Nat.zero_le _
  | succ k ih =>
   intro a M hk h0 h1 h
   rw [skipP]
   split
   ·have ht := chain_take 8 a M h
    have hd := chain_drop 8 a M h
    obtain ⟨g1, g2⟩ := last_ge a _ ht
    have g2 := g2 h1
    have hl := allP_len a _ h0 ht
    rw [List.length_take] at hl
    have i1 := ih _ _ (by rw [List.length_drop]; omega) (by omega) g2 hd
    rw [List.length_drop] at i1
    have v1 := varL_two (lastD a (M.take 8) - a).toNat (by omega)
    have v2 : (varL (allP a (M.take 8)).length).length <= 3 := by
     rw [varL]
     split
     ·simp
     ·rw [List.length_cons]
      have := varL_two ((allP a (M.take 8)).length / 128) (by omega)
      omega
    rw [List.length_append, List.length_append]
    omega
   ·exact Nat.zero_le _
 have h4 := h3 _ (-1) L (Nat.le_refl _) (by omega) (by omega) hc
 unfold bytesP
 rw [List.length_append, List.length_append]
 omega
theorem ex_pack : bytesP [⟨0, [1, 4]⟩, ⟨3, [0]⟩] = [2, 1, 2, 2, 3, 3, 1, 1] := by decide +kernel
end Go.Proofs.Ytjcajeilhcjneaa.Po
