/- What the program's words tells: each word with its place. -/
import Derived.Test.YtbblmpibekkbfaaDoorTPlace
import Derived.Test.YtbblmpibekkbfaaDoorTYield
import Derived.Test.YtbblmpibekkbfaaDoorUKindP
import Derived.Test.YtbblmpibekkbfaaDoorUFoldP
namespace Go.Proofs.YtbblmpibekkbfaaDoor
open Go.RowKit Go.Shelf
attribute [local go_sem] Oper.semAt_some

def kw (r : Int) : Bool := kindI r == 1 || kindI r == 2
set_option maxRecDepth 100000 in
theorem inword_any (r : Int) (w : World) (hT : Tabs w) (h : -9223372036854775808 ≤ r ∧ r ≤ 9223372036854775807) : Calls Tryd.prog 33 #[.int .i64 r] w fun e w' => e = .returned (.bool (kw r)) ∧ Below w.heap.size w w' := by
  have CK := Lib.hid (pkind_any r w hT h)
  have HK : Hid (kw r = (((kindI r : Nat) : Int) == 1 || ((kindI r : Nat) : Int) == 2)) := by
    show _ = _
    unfold kw
    generalize kindI r = q
    have e : ∀ k : Nat, (((q : Nat) : Int) == (k : Int)) = (q == k) := fun k => by
      rw [Bool.eq_iff_iff, beq_iff_eq, beq_iff_eq]; omega
    rw [show (1 : Int) = ((1 : Nat) : Int) from rfl, show (2 : Int) = ((2 : Nat) : Int) from rfl, e, e]
  generalize kw r = b at *
  generalize kindI r = q at *
  clear hT
  by_cases h1 : q = 1
  · subst h1
    obtain rfl : b = true := HK.out
    clear HK
    go_enter Tryd.func33, Tryd.ntmps33
    go_wp2_with fail
    refine CK.out.mono ?_
    rintro e w1 ⟨rfl, hb⟩
    go_wp2
    go_ret
    exact ⟨rfl, hb⟩
  · by_cases h2 : q = 2
    · subst h2
      obtain rfl : b = true := HK.out
      clear HK
      go_enter Tryd.func33, Tryd.ntmps33
      go_wp2_with fail
      refine CK.out.mono ?_
      rintro e w1 ⟨rfl, hb⟩
      go_wp2
      go_ret
      exact ⟨rfl, hb⟩
    · have e1 : (((q : Nat) : Int) == 1) = false := beq_eq_false_iff_ne.2 (by omega)
      have e2 : (((q : Nat) : Int) == 2) = false := beq_eq_false_iff_ne.2 (by omega)
      have hbf := HK.out
      rw [e1, e2] at hbf
      obtain rfl : b = false := hbf
      clear HK
      go_enter Tryd.func33, Tryd.ntmps33
      go_wp2_with fail
      refine CK.out.mono ?_
      rintro e w1 ⟨rfl, hb⟩
      go_wp2
      go_ret
      exact ⟨rfl, hb⟩
set_option maxRecDepth 100000 in
theorem words_any (s : ByteArray) (w : World) : Calls Tryd.prog 20 #[.string s] w fun e w' => e = .returned (.func (.func 32) #[] #[.pointer (some ⟨w.heap.size, 0, none⟩)]) ∧ w' = w.alloc (.cells #[.string s] 9) := by
  go_enter Tryd.func20, Tryd.ntmps20
  go_wp2
  go_ret
  exact ⟨rfl, rfl⟩
end Go.Proofs.YtbblmpibekkbfaaDoor
