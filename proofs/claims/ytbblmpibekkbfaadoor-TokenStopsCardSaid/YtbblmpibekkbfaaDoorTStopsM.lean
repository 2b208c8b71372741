/- Stop words, and a word that is too long: in plain lists. -/
import Derived.Test.YtbblmpibekkbfaaDoorTJoinM
namespace Go.Proofs.YtbblmpibekkbfaaDoor
open Go.RowKit

def stops19 : List ByteArray := [⟨#[97]⟩, ⟨#[97, 110]⟩, ⟨#[97, 110, 100]⟩, ⟨#[97, 114, 101]⟩, ⟨#[97, 115]⟩, ⟨#[97, 116]⟩, ⟨#[98, 101]⟩, ⟨#[98, 121]⟩, ⟨#[102, 111, 114]⟩, ⟨#[105, 110]⟩, ⟨#[105, 115]⟩, ⟨#[105, 116]⟩, ⟨#[111, 102]⟩, ⟨#[111, 110]⟩, ⟨#[111, 114]⟩, ⟨#[116, 104, 101]⟩, ⟨#[116, 111]⟩, ⟨#[119, 105, 116, 104]⟩, ⟨#[97, 97, 97, 97, 97, 97, 97, 97, 97, 97, 98, 98, 98, 98, 98, 98, 98, 98, 98, 98, 99, 99, 99, 99, 99, 99, 99, 99, 99, 99, 100, 100, 100, 100, 100, 100, 100, 100, 100, 100, 120]⟩]
theorem stops19_all : stops19.all (fun x => match (grps (cut x.data.toList)).map termG with | [y] => !keepT y | _ => false) = true := by decide +kernel
theorem stops19_len : stops19.length = 19 := rfl
theorem stops19_size : ∀ x ∈ stops19, x.size ≤ 41 := by decide +kernel
theorem stop_one {x : ByteArray} (h : x ∈ stops19) : ∃ y, (grps (cut x.data.toList)).map termG = [y] ∧ keepT y = false := by
  have h1 := List.all_eq_true.1 stops19_all x h
  generalize (grps (cut x.data.toList)).map termG = l at *
  match l, h1 with
  | [y], h1 => exact ⟨y, rfl, by simpa using h1⟩
theorem tokL_stops {x : ByteArray} (h : x ∈ stops19) (s : ByteArray) : tokL (x ++ ⟨#[32]⟩ ++ s ++ ⟨#[32]⟩ ++ x) = shiftK 1 (tokL s) := by
  obtain ⟨y, hy, hk⟩ := stop_one h
  have e : (x ++ ⟨#[32]⟩ ++ s ++ ⟨#[32]⟩ ++ x).data.toList = x.data.toList ++ 32 :: (s.data.toList ++ 32 :: x.data.toList) := by
    rw [appendT_list, appendT_list, appendT_list, appendT_list]; simp
  rw [tokL_F, e, grps_blank, grps_blank, List.map_append, List.map_append, hy, tokL_F s]
  show toksF (y :: ((grps (cut s.data.toList)).map termG ++ [y])) 0 = _
  have h1 : ∀ l i, toksF (y :: l) i = toksF l (i + 1) := fun l i => by
    show (if keepT y = true then _ else _) = _
    rw [if_neg (by rw [hk]; simp)]
  rw [h1, toksF_app, h1]
  show toksF _ (0 + 1) ++ [] = _
  rw [List.append_nil, toksF_add]
theorem trmL_stop {x : ByteArray} (h : x ∈ stops19) : trmL x = [] := by
  obtain ⟨y, hy, hk⟩ := stop_one h
  unfold trmL
  rw [tokL_F, hy]
  have h1 : toksF [y] 0 = [] := by
    show (if keepT y = true then _ else _) = _
    rw [if_neg (by rw [hk]; simp)]
    rfl
  rw [h1]; rfl
end Go.Proofs.YtbblmpibekkbfaaDoor
