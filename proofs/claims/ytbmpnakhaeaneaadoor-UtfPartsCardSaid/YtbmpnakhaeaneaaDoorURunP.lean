/- What the program's Rune, Valid, Append answer. -/
import Derived.Test.YtbmpnakhaeaneaaDoorUKindP
import Derived.Test.YtbmpnakhaeaneaaDoorUDecM
import Derived.Test.YtbmpnakhaeaneaaDoorUDoc2
import Derived.Test.YtbmpnakhaeaneaaDoorShelf2
import Derived.Laws.Runes
namespace Go.Proofs.YtbmpnakhaeaneaaDoor
open Go.RowKit

set_option maxRecDepth 100000 in
theorem prune_any (s : ByteArray) (w : World) (hT : Tabs w) (hs : s.size ≤ 100000) : Calls Tryd.prog 10 #[.string s] w fun e w' => e = .returned (.tuple #[.int .i64 (runeL s.data.toList).1, .int .i64 ((runeL s.data.toList).2 : Nat)]) ∧ Below w.heap.size w w' := by
  have C := Lib.hid (Tryd.utf8_DecodeRuneInString s w hT.1)
  obtain ⟨g1, g2, g3, g4⟩ := rune_go s
  clear hT
  generalize Lib.decodeGo s = D at *
  obtain ⟨r, n⟩ := D
  dsimp only at *
  by_cases h1 : r = 65533
  · subst h1
    by_cases h2 : n ≤ 1
    · rw [g1 ⟨rfl, h2⟩]
      dsimp only
      clear g1 g2
      have h3 : (n : Int) ≤ 1 := by omega
      go_enter Tryd.func10, Tryd.ntmps10
      go_wp2_with fail
      refine C.out.mono ?_
      rintro e w1 ⟨rfl, hb⟩
      go_wp2
      go_ret2
      exact ⟨rfl, hb⟩
    · rw [g2 (fun h => h2 h.2)]
      dsimp only
      clear g1 g2
      have h3 : ¬ (n : Int) ≤ 1 := by omega
      go_enter Tryd.func10, Tryd.ntmps10
      go_wp2_with fail
      refine C.out.mono ?_
      rintro e w1 ⟨rfl, hb⟩
      go_wp2
      go_ret2
      exact ⟨rfl, hb⟩
  · rw [g2 (fun h => h1 h.1)]
    dsimp only
    clear g1 g2
    have h3 : ((r : Int) == 65533) = false := beq_eq_false_iff_ne.2 (by omega)
    have hw : IntKind.i64.wrap (r : Int) = (r : Int) := IntWalk.i64_in _ (by omega)
    go_enter Tryd.func10, Tryd.ntmps10
    go_wp2_with fail
    refine C.out.mono ?_
    rintro e w1 ⟨rfl, hb⟩
    go_wp2
    go_ret2
    exact ⟨rfl, hb⟩
set_option maxRecDepth 100000 in
theorem pvalid_any (s : ByteArray) (w : World) (hT : Tabs w) (hs : s.size ≤ 100000) : Calls Tryd.prog 12 #[.string s] w fun e w' => e = .returned (.bool (validL s.data.toList)) ∧ Below w.heap.size w w' := by
  have C : Hid (Calls Tryd.prog 26 #[.string s] w fun e w' => e = .returned (.bool (Lib.validD s.data.toList)) ∧ Below w.heap.size w w') := Any.utf8_ValidString Tryd.laysValid s w (by omega) hT.1
  rw [valid_go] at C
  clear hT
  generalize validL s.data.toList = v at *
  go_enter Tryd.func12, Tryd.ntmps12
  go_wp2_with fail
  refine C.out.mono ?_
  rintro e w1 ⟨rfl, hb⟩
  go_wp2
  go_ret
  exact ⟨rfl, hb⟩
theorem u8_mod {n : Nat} (h : n < 256) : UInt8.ofNat n = UInt8.ofNat n := rfl
theorem enc_byts (k : Nat) (h : isRn k = true) : Utf8.encode (k : Int) = utxt (byts k) := by
  have hv : Utf8.valid (k : Int) = true := by
    rw [validRune_eq]
    unfold isRn at h
    have := of_decide_eq_true h
    exact decide_eq_true (by omega)
  unfold Utf8.encode byts
  simp only [hv, if_true, Int.toNat_natCast]
  by_cases h1 : k < 128
  · rw [if_pos h1, if_pos h1]; rfl
  rw [if_neg h1, if_neg h1]
  by_cases h2 : k < 2048
  · rw [if_pos h2, if_pos h2]; rfl
  rw [if_neg h2, if_neg h2]
  by_cases h3 : k < 65536
  · rw [if_pos h3, if_pos h3]; rfl
  rw [if_neg h3, if_neg h3]; rfl
set_option maxRecDepth 100000 in
theorem pappend_any (s : ByteArray) (r : Int) (w : World) (hs : s.size ≤ 100000) (h : -9223372036854775808 ≤ r ∧ r ≤ 9223372036854775807) : Calls Tryd.prog 19 #[.string s, .int .i64 r] w fun e w' => e = .returned (.string (utxt (appL s.data.toList r))) ∧ Below w.heap.size w w' := by
  have CI := Lib.hid (pis_any r w h)
  have hb4 : ∀ k, (utxt (byts k)).size ≤ 4 := fun k => by rw [utxt_size, byts_len]; split; omega; split; omega; split <;> omega
  cases hi : isI r with
  | true =>
    obtain ⟨k, rfl, hk⟩ := isI_of hi
    have hr0 : k ≤ 1114111 := by unfold isRn at hk; exact (of_decide_eq_true hk).1
    have hw : IntKind.i32.wrap (k : Int) = (k : Int) := IntWalk.i32_in _ (by omega)
    have HC := Lib.hid (enc_byts k hk)
    have HE : Hid (s ++ Utf8.encode (k : Int) = utxt (appL s.data.toList (k : Int))) := by
      show _ = _
      rw [HC.out]
      unfold appL
      rw [if_pos hi, ← utxt_app, utxt_of]
      rfl
    have hz := hb4 k
    rw [← HC.out] at hz
    rw [hi] at CI
    have hcv : ∀ W : World, (convert 21 9 (.int .i32 (k : Int))).run Tryd.prog W = .ok (.string (Utf8.encode (k : Int))) W := fun W => run_convert_int_string W _ _ _ _ (by rw [Tryd.underlying21]; rfl) Tryd.underlying9
    have HCV := Lib.hid hcv
    clear hcv hb4 HC hk
    generalize Utf8.encode (k : Int) = B at *
    have hcv := HCV.out w
    go_enter Tryd.func19, Tryd.ntmps19
    go_wp2_with fail
    refine CI.out.mono ?_
    rintro e w1 ⟨rfl, rfl⟩
    go_wp2
    go_ret
    exact ⟨congrArg (fun x => Ending.returned (.string x)) HE.out, Below.refl _ _⟩
  | false =>
    have hw : IntKind.i32.wrap 65533 = 65533 := by decide
    have HC := Lib.hid (enc_byts 65533 rn_fffd)
    rw [show ((65533 : Nat) : Int) = 65533 from rfl] at HC
    have HE : Hid (s ++ Utf8.encode 65533 = utxt (appL s.data.toList r)) := by
      show _ = _
      rw [HC.out]
      unfold appL
      rw [if_neg (by rw [hi]; simp), ← utxt_app, utxt_of]
    have hz := hb4 65533
    rw [← HC.out] at hz
    rw [hi] at CI
    have hcv : ∀ W : World, (convert 21 9 (.int .i32 65533)).run Tryd.prog W = .ok (.string (Utf8.encode 65533)) W := fun W => run_convert_int_string W _ _ _ _ (by rw [Tryd.underlying21]; rfl) Tryd.underlying9
    have HCV := Lib.hid hcv
    clear hcv hb4 HC
    generalize Utf8.encode 65533 = B at *
    have hcv := HCV.out w
    go_enter Tryd.func19, Tryd.ntmps19
    go_wp2_with fail
    refine CI.out.mono ?_
    rintro e w1 ⟨rfl, rfl⟩
    go_wp2
    go_ret
    exact ⟨congrArg (fun x => Ending.returned (.string x)) HE.out, Below.refl _ _⟩
end Go.Proofs.YtbmpnakhaeaneaaDoor
