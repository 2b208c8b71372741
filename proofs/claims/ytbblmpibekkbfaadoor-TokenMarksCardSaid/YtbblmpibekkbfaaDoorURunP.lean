/- What the program's Rune, Valid, Append answer. -/
import Derived.Test.YtbblmpibekkbfaaDoorUKindP
import Derived.Test.YtbblmpibekkbfaaDoorUDecM
import Derived.Test.YtbblmpibekkbfaaDoorUDoc2
import Derived.Test.YtbblmpibekkbfaaDoorShelf2
import Derived.Laws.Runes
namespace Go.Proofs.YtbblmpibekkbfaaDoor
open Go.RowKit

set_option maxRecDepth 100000 in
theorem prune_any (s : ByteArray) (w : World) (hT : Tabs w) (hs : s.size ≤ 100000) : Calls Tryd.prog 39 #[.string s] w fun e w' => e = .returned (.tuple #[.int .i64 (runeL s.data.toList).1, .int .i64 ((runeL s.data.toList).2 : Nat)]) ∧ Below w.heap.size w w' := by
  have C := Lib.hid (Tryd.utf8_DecodeRuneInString s w hT.1)
  obtain ⟨g1, g2, g3, g4⟩ := rune_go s
  clear hT
  generalize Lib.decodeGo s = D at *
  obtain ⟨r, n⟩ := D
  dsimp only at *
  by_cases h1 : r = 65533
  · subst h1
    by_cases h2 : n ≤ 1
    · rw [g1 ⟨rfl, h2⟩]
      dsimp only
      clear g1 g2
      have h3 : (n : Int) ≤ 1 := by omega
      go_enter Tryd.func39, Tryd.ntmps39
      go_wp2_with fail
      refine C.out.mono ?_
      rintro e w1 ⟨rfl, hb⟩
      go_wp2
      go_ret2
      exact ⟨rfl, hb⟩
    · rw [g2 (fun h => h2 h.2)]
      dsimp only
      clear g1 g2
      have h3 : ¬ (n : Int) ≤ 1 := by omega
      go_enter Tryd.func39, Tryd.ntmps39
      go_wp2_with fail
      refine C.out.mono ?_
      rintro e w1 ⟨rfl, hb⟩
      go_wp2
      go_ret2
      exact ⟨rfl, hb⟩
  · rw [g2 (fun h => h1 h.1)]
    dsimp only
    clear g1 g2
    have h3 : ((r : Int) == 65533) = false := beq_eq_false_iff_ne.2 (by omega)
    have hw : IntKind.i64.wrap (r : Int) = (r : Int) := IntWalk.i64_in _ (by omega)
    go_enter Tryd.func39, Tryd.ntmps39
    go_wp2_with fail
    refine C.out.mono ?_
    rintro e w1 ⟨rfl, hb⟩
    go_wp2
    go_ret2
    exact ⟨rfl, hb⟩
theorem u8_mod {n : Nat} (h : n < 256) : UInt8.ofNat n = UInt8.ofNat n := rfl
theorem enc_byts (k : Nat) (h : isRn k = true) : Utf8.encode (k : Int) = utxt (byts k) := by
  have hv : Utf8.valid (k : Int) = true := by
    rw [validRune_eq]
    unfold isRn at h
    have := of_decide_eq_true h
    exact decide_eq_true (by omega)
  unfold Utf8.encode byts
  simp only [hv, if_true, Int.toNat_natCast]
  by_cases h1 : k < 128
  · rw [if_pos h1, if_pos h1]; rfl
  rw [if_neg h1, if_neg h1]
  by_cases h2 : k < 2048
  · rw [if_pos h2, if_pos h2]; rfl
  rw [if_neg h2, if_neg h2]
  by_cases h3 : k < 65536
  · rw [if_pos h3, if_pos h3]; rfl
  rw [if_neg h3, if_neg h3]; rfl
end Go.Proofs.YtbblmpibekkbfaaDoor
