/- What stands between words is not seen: in plain lists. -/
import Derived.Test.YtbblmpibekkbfaaDoorTJoinM
import Derived.Test.YtbblmpibekkbfaaDoorUDoc2
namespace Go.Proofs.YtbblmpibekkbfaaDoor
open Go.RowKit

def Ends (s : List UInt8) (G : List (List It)) : Prop := ∀ T, grps (cut (s ++ T)) = G ++ grps (cut T)
theorem ends_nil : Ends [] [] := fun _ => rfl
theorem ends_more {s : List UInt8} {G : List (List It)} (h : Ends s G) {x : Nat} (hr : isRn x = true) (hw : isW ((x : Int), byts x) = false) : Ends (s ++ byts x) G := fun T => by
  rw [List.append_assoc, h, cut_byts x T hr]
  rw [show ((x : Int), byts x) :: cut T = [] ++ ((x : Int), byts x) :: cut T from rfl, grps_sep _ _ _ hw]
  rfl
theorem ends_word {s : List UInt8} {G : List (List It)} (h : Ends s G) (l : List UInt8) {x : Nat} (hr : isRn x = true) (hw : isW ((x : Int), byts x) = false) : Ends (s ++ l ++ byts x) (G ++ grps (cut l)) := fun T => by
  rw [List.append_assoc, List.append_assoc, h, cut_sep l (byts_first x hr T), cut_byts x T hr, grps_sep _ _ _ hw, List.append_assoc]
def markR (r : Int) : Nat := if isI r = true then r.toNat else 65533
theorem mark_rn (r : Int) : isRn (markR r) = true := by
  unfold markR
  by_cases h : isI r = true
  · rw [if_pos h]
    unfold isI at h
    unfold isRn
    simp only [decide_eq_true_eq, Bool.and_eq_true, Bool.or_eq_true] at *
    omega
  · rw [if_neg h]; decide
theorem mark_no {r : Int} (h1 : kindI r ≠ 1) (h2 : kindI r ≠ 2) : isW ((markR r : Int), byts (markR r)) = false := by
  rw [isW_int]
  unfold markR
  by_cases h : isI r = true
  · rw [if_pos h]
    have e : ((r.toNat : Nat) : Int) = r := by
      unfold isI at h
      simp only [decide_eq_true_eq, Bool.and_eq_true, Bool.or_eq_true] at h
      omega
    rw [e]
    simp [h1, h2]
  · rw [if_neg h]; decide
theorem mark_app (r : Int) : appL [] r = byts (markR r) := by
  unfold appL markR
  rw [List.nil_append]
theorem blank_no : isW (((32 : Nat) : Int), byts 32) = false := by decide
theorem ends_same {s t : ByteArray} {G : List (List It)} (h1 : Ends s.data.toList G) (h2 : Ends t.data.toList G) : tokL s = tokL t := by
  have a := h1 []
  have b := h2 []
  rw [List.append_nil] at a b
  rw [tokL_F, tokL_F, a, b]
theorem byts_four (x : Nat) : (byts x).length ≤ 4 := by
  rw [byts_len]; split; omega; split; omega; split <;> omega
end Go.Proofs.YtbblmpibekkbfaaDoor
