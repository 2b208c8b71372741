/- The document's Valid, Append, Kind, Fold. -/
import Derived.Test.YtbmpnakhaeaneaaDoorUDocR
namespace Go.Proofs.YtbmpnakhaeaneaaDoor
open Go.RowKit

/-- Append's text. -/
def appL (L : List UInt8) (r : Int) : List UInt8 := L ++ byts (if isI r = true then r.toNat else 65533)
theorem rn_fffd : isRn 65533 = true := by decide
set_option maxRecDepth 100000 in
theorem xappend_any (s : ByteArray) (r : Int) (w : World) (hs : s.size ≤ 100000) (h : -9223372036854775808 ≤ r ∧ r ≤ 9223372036854775807) : Calls Tryd.prog 20 #[.string s, .int .i64 r] w fun e w' => e = .returned (.string (utxt (appL s.data.toList r))) ∧ Below w.heap.size w w' := by
  have CI := Lib.hid (is_any r w h)
  have hb4 : ∀ k, (utxt (byts k)).size ≤ 4 := fun k => by rw [utxt_size, byts_len]; split; omega; split; omega; split <;> omega
  cases hi : isI r with
  | true =>
    obtain ⟨k, rfl, hk⟩ := isI_of hi
    have CB := Lib.hid (bytes_any k w hk)
    have HE : Hid (s ++ utxt (byts k) = utxt (appL s.data.toList (k : Int))) := by
      show _ = _
      unfold appL
      rw [if_pos hi, ← utxt_app, utxt_of]
      rfl
    have hz := hb4 k
    rw [hi] at CI
    generalize utxt (byts k) = B at *
    go_enter Tryd.func20, Tryd.ntmps20
    go_wp2_with fail
    refine CI.out.mono ?_
    rintro e w1 ⟨rfl, rfl⟩
    go_wp2_with fail
    refine CB.out.mono ?_
    rintro e w2 ⟨rfl, hb2⟩
    go_wp2
    go_ret
    exact ⟨congrArg (fun x => Ending.returned (.string x)) HE.out, hb2⟩
  | false =>
    have CB := Lib.hid (bytes_any 65533 w rn_fffd)
    have HE : Hid (s ++ utxt (byts 65533) = utxt (appL s.data.toList r)) := by
      show _ = _
      unfold appL
      rw [if_neg (by rw [hi]; simp), ← utxt_app, utxt_of]
    have hz := hb4 65533
    rw [hi] at CI
    rw [show ((65533 : Nat) : Int) = 65533 from rfl] at CB
    generalize utxt (byts 65533) = B at *
    go_enter Tryd.func20, Tryd.ntmps20
    go_wp2_with fail
    refine CI.out.mono ?_
    rintro e w1 ⟨rfl, rfl⟩
    go_wp2_with fail
    refine CB.out.mono ?_
    rintro e w2 ⟨rfl, hb2⟩
    go_wp2
    go_ret
    exact ⟨congrArg (fun x => Ending.returned (.string x)) HE.out, hb2⟩
def strLen (v : Value) : Nat := match v with | .string T => T.size | _ => 0
theorem utxt_drop (s : ByteArray) (k : Nat) : s.extract k s.size = utxt (s.data.toList.drop k) := by
  apply ByteArray.ext
  rw [ByteArray.data_extract]
  unfold utxt
  apply Array.ext'
  rw [Array.toList_extract]
  have : s.data.toList.length = s.size := data_len s
  simp only [List.extract_eq_take_drop]
  rw [List.take_of_length_le]
  rw [List.length_drop]
  omega
set_option maxRecDepth 100000 in
set_option maxHeartbeats 1000000 in
theorem xvalid_any (s : ByteArray) (w : World) (hs : s.size ≤ 100000) : Calls Tryd.prog 13 #[.string s] w fun e w' => e = .returned (.bool (validL s.data.toList)) ∧ Below w.heap.size w w' := by
  have HR : Hid (∀ (t : ByteArray) W, t.size ≤ 100000 → Calls Tryd.prog 11 #[.string t] W fun e w' => e = .returned (.tuple #[.int .i64 (runeL t.data.toList).1, .int .i64 ((runeL t.data.toList).2 : Nat)]) ∧ Below W.heap.size W w') := fun t W h => xrune_any t W h
  have HV : Hid (validL s.data.toList = validL s.data.toList) := rfl
  obtain ⟨v, hv⟩ : ∃ v, validL s.data.toList = v := ⟨_, rfl⟩
  rw [hv]
  have HS := Lib.hid hv
  go_enter Tryd.func13, Tryd.ntmps13
  go_wp2_with fail
  go_loopw [0] (fun t wr => ∃ T : ByteArray, t = .string T ∧ T.size ≤ 100000 ∧ Hid (validL T.data.toList = v) ∧ Hid (Below w.heap.size w wr)) (fun t _ => strLen t)
  case atStart => exact ⟨s, rfl, hs, HS, Below.refl _ _⟩
  case round =>
    obtain ⟨T, rfl, hT, HVT, HB⟩ := hrel
    have hlen := data_len T
    by_cases h0 : T.size = 0
    · have hnil : T.data.toList = [] := List.length_eq_zero_iff.1 (by omega)
      have HF : Hid (v = true) := by
        show v = true
        rw [← HVT.out, hnil]; rfl
      go_wp2
      go_ret
      exact ⟨congrArg (fun b => Ending.returned (.bool b)) HF.out.symm, HB.out⟩
    · have hne : T.data.toList ≠ [] := fun e => by rw [e] at hlen; exact h0 hlen.symm
      have hp := rune_pos hne
      have hst := valid_step hne
      rw [HVT.out] at hst
      have CR := Lib.hid (HR.out T wr hT)
      have HX := Lib.hid (utxt_drop T (runeL T.data.toList).2)
      have hneg : (runeL T.data.toList).1 < 0 ∨ 0 ≤ (runeL T.data.toList).1 := by omega
      rw [hlen] at hp
      generalize runeL T.data.toList = R at *
      obtain ⟨r, n⟩ := R
      dsimp only at *
      have hsz : (T.extract n T.size).size = T.size - n := by rw [HX.out, utxt_size, List.length_drop, hlen]
      have HV2 : Hid (0 ≤ r → validL (T.extract n T.size).data.toList = v) := fun h => by
        rw [HX.out, utxt_data]
        rw [decide_eq_true h, Bool.true_and] at hst
        exact hst.symm
      have HF : Hid (r < 0 → v = false) := fun h => by
        rw [hst, decide_eq_false (by omega), Bool.false_and]
      obtain ⟨X, hX⟩ : ∃ X, T.extract n T.size = X := ⟨_, rfl⟩
      rw [hX] at hsz HV2
      clear hst HX HVT hne
      rcases hneg with hneg | hneg
      · have HF2 := Lib.hid (HF.out hneg)
        go_wp2_with fail
        refine CR.out.mono ?_
        rintro e w1 ⟨rfl, hb1⟩
        have HB1 := Lib.hid (HB.out.trans (hb1.mono HB.out.size))
        clear hb1
        go_wp2
        go_ret
        exact ⟨congrArg (fun b => Ending.returned (.bool b)) HF2.out.symm, HB1.out⟩
      · have HV3 := Lib.hid (HV2.out hneg)
        have i1 : 0 ≤ (n : Int) := by omega
        have i2 : (n : Int) ≤ (T.size : Int) := by omega
        go_wp2_with fail
        refine CR.out.mono ?_
        rintro e w1 ⟨rfl, hb1⟩
        have HB1 := Lib.hid (HB.out.trans (hb1.mono HB.out.size))
        clear hb1
        go_wp2
        go_roundw
        case rel => exact ⟨X, by first | rfl | (rw [← hX]; first | rfl | simp), by omega, HV3.out, HB1.out⟩
        case measure => simp [strLen]; first | omega | (rw [hsz]; omega) | (rw [← hX] at hsz; omega)
end Go.Proofs.YtbmpnakhaeaneaaDoor
