/- The document's Valid, Append, Kind, Fold. -/
import Derived.Test.YtbblmpibekkbfaaDoorUDocR
namespace Go.Proofs.YtbblmpibekkbfaaDoor
open Go.RowKit

/-- Append's text. -/
def appL (L : List UInt8) (r : Int) : List UInt8 := L ++ byts (if isI r = true then r.toNat else 65533)
theorem rn_fffd : isRn 65533 = true := by decide
set_option maxRecDepth 100000 in
theorem xappend_any (s : ByteArray) (r : Int) (w : World) (hs : s.size ≤ 100000) (h : -9223372036854775808 ≤ r ∧ r ≤ 9223372036854775807) : Calls Tryd.prog 19 #[.string s, .int .i64 r] w fun e w' => e = .returned (.string (utxt (appL s.data.toList r))) ∧ Below w.heap.size w w' := by
  have CI := Lib.hid (is_any r w h)
  have hb4 : ∀ k, (utxt (byts k)).size ≤ 4 := fun k => by rw [utxt_size, byts_len]; split; omega; split; omega; split <;> omega
  cases hi : isI r with
  | true =>
    obtain ⟨k, rfl, hk⟩ := isI_of hi
    have CB := Lib.hid (bytes_any k w hk)
    have HE : Hid (s ++ utxt (byts k) = utxt (appL s.data.toList (k : Int))) := by
      show _ = _
      unfold appL
      rw [if_pos hi, ← utxt_app, utxt_of]
      rfl
    have hz := hb4 k
    rw [hi] at CI
    generalize utxt (byts k) = B at *
    go_enter Tryd.func19, Tryd.ntmps19
    go_wp2_with fail
    refine CI.out.mono ?_
    rintro e w1 ⟨rfl, rfl⟩
    go_wp2_with fail
    refine CB.out.mono ?_
    rintro e w2 ⟨rfl, hb2⟩
    go_wp2
    go_ret
    exact ⟨congrArg (fun x => Ending.returned (.string x)) HE.out, hb2⟩
  | false =>
    have CB := Lib.hid (bytes_any 65533 w rn_fffd)
    have HE : Hid (s ++ utxt (byts 65533) = utxt (appL s.data.toList r)) := by
      show _ = _
      unfold appL
      rw [if_neg (by rw [hi]; simp), ← utxt_app, utxt_of]
    have hz := hb4 65533
    rw [hi] at CI
    rw [show ((65533 : Nat) : Int) = 65533 from rfl] at CB
    generalize utxt (byts 65533) = B at *
    go_enter Tryd.func19, Tryd.ntmps19
    go_wp2_with fail
    refine CI.out.mono ?_
    rintro e w1 ⟨rfl, rfl⟩
    go_wp2_with fail
    refine CB.out.mono ?_
    rintro e w2 ⟨rfl, hb2⟩
    go_wp2
    go_ret
    exact ⟨congrArg (fun x => Ending.returned (.string x)) HE.out, hb2⟩
def strLen (v : Value) : Nat := match v with | .string T => T.size | _ => 0
theorem utxt_drop (s : ByteArray) (k : Nat) : s.extract k s.size = utxt (s.data.toList.drop k) := by
  apply ByteArray.ext
  rw [ByteArray.data_extract]
  unfold utxt
  apply Array.ext'
  rw [Array.toList_extract]
  have : s.data.toList.length = s.size := data_len s
  simp only [List.extract_eq_take_drop]
  rw [List.take_of_length_le]
  rw [List.length_drop]
  omega
end Go.Proofs.YtbblmpibekkbfaaDoor
