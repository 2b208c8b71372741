/- FramePacks, walked: for any number and any writes it answers true. -/
import Derived.Test.YtkailodeojbnhaaFShown
import Derived.Test.YtkailodeojbnhaaFPackR
import Derived.Test.YtkailodeojbnhaaFOpen
namespace Go.Proofs.Ytkailodeojbnhaa
open Go.RowKit

theorem pk_len (seq : Nat) (L : List (Int × ByteArray)) : (pk seq L).1.length ≤ 49 := by
  unfold pk
  by_cases hc : chk L = 0
  · rw [if_pos hc]
    have := ((chk_ok L).1 hc).2.1
    show (packL seq L).length ≤ 49
    unfold packL
    simp; omega
  · rw [if_neg hc]; simp
theorem maxLen_of {n : Nat} (h : n ≤ 1000000) : n ≤ maxLen := by unfold maxLen; omega
theorem same_not {x : Int} : (x != x) = false := by simp
theorem same_is {x : Int} : (x == x) = true := by simp

set_option maxRecDepth 100000 in
set_option maxHeartbeats 4000000 in
theorem packs_walk (seq : Nat) (v : Value) (L : List (Int × ByteArray)) (w : World) (hseq : seq < 18446744073709551616) (hA : WrsA w v L) :
    Calls Try.prog 3 #[.int .u64 (seq : Int), v] w fun e w' => e = .returned (.bool true) ∧ Below w.heap.size w w' := by
  obtain ⟨hsl, hlen, hel⟩ := hA
  have CS := Lib.hid (shown_any w)
  have CM : Hid (∀ W, Below w.heap.size w W → Calls Try.prog 10 #[v] W fun e w' => e = .returned (.bool (smallW L)) ∧ W = w') := fun W hW => small_any L v W hlen (fun x hx => (hel x hx).1) (hsl.below hW)
  cases hsm : smallW L with
  | false =>
    rw [hsm] at CM
    clear hsm hsl hel hlen
    go_enter Try.func3, Try.ntmps3
    go_wp2_with fail
    refine CS.out.mono ?_
    rintro e w1 ⟨rfl, hb1⟩
    have HB1 := Lib.hid hb1; clear hb1
    go_wp2_with fail
    refine (CM.out _ HB1.out).mono ?_
    rintro e w2 ⟨rfl, rfl⟩
    go_wp2
    go_ret
    exact ⟨rfl, HB1.out⟩
  | true =>
    rw [hsm] at CM
    obtain ⟨h60, h600⟩ := (smallW_iff L).1 hsm
    have CP : Hid (∀ W, Below w.heap.size w W → Calls Try.prog 11 #[.int .u64 (seq : Int), v] W fun e w' => ∃ u, e = .returned (.tuple #[u, .int .i64 (((pk seq L).2 : Nat) : Int)]) ∧ OwnS W.heap.size w' u (pk seq L).1 ∧ Below W.heap.size W w') := fun W hW => pack_any seq L v W hseq (by omega) (fun x hx => (hel x hx).1) (hsl.below hW)
    have CR : Hid (∀ W, Below w.heap.size w W → Calls Try.prog 12 #[.int .u64 (seq : Int), v] W fun e w' => ∃ u, e = .returned (.tuple #[u, .int .i64 (((pk seq L).2 : Nat) : Int)]) ∧ OwnS W.heap.size w' u (pk seq L).1 ∧ Below W.heap.size W w') := fun W hW => rpack_any seq L v W hseq (by omega) (fun x hx => (hel x hx).1) (hsl.below hW)
    have CW : Hid (∀ W, Below w.heap.size w W → Calls Try.prog 14 #[v] W fun e w' => ∃ u, e = .returned u ∧ OwnW W.heap.size w' u (wholeL L) ∧ Below W.heap.size W w') := fun W hW => whole_any L v W h60 (fun x hx => ⟨h600 x hx, (hel x hx).2⟩) (hsl.below hW)
    have hwl : (wholeL L).length ≤ 48 := by rw [wholeL_len]; omega
    have CP2 : Hid (∀ W u, SlW W u (wholeL L) → Calls Try.prog 11 #[.int .u64 (seq : Int), u] W fun e w' => ∃ v, e = .returned (.tuple #[v, .int .i64 (((pk seq (wholeL L)).2 : Nat) : Int)]) ∧ OwnS W.heap.size w' v (pk seq (wholeL L)).1 ∧ Below W.heap.size W w') := fun W u h => pack_any seq (wholeL L) u W hseq (by omega) (fun x hx => maxLen_of (by rw [(wholeL_ok L x hx).2.2]; omega)) h
    have CR2 : Hid (∀ W u, SlW W u (wholeL L) → Calls Try.prog 12 #[.int .u64 (seq : Int), u] W fun e w' => ∃ v, e = .returned (.tuple #[v, .int .i64 (((pk seq (wholeL L)).2 : Nat) : Int)]) ∧ OwnS W.heap.size w' v (pk seq (wholeL L)).1 ∧ Below W.heap.size W w') := fun W u h => rpack_any seq (wholeL L) u W hseq (by omega) (fun x hx => maxLen_of (by rw [(wholeL_ok L x hx).2.2]; omega)) h
    have CT : Hid (∀ W a b, SlS W a (pk seq L).1 → SlS W b (pk seq L).1 → Calls Try.prog 13 #[a, b] W fun e w' => e = .returned (.bool true) ∧ Below W.heap.size W w') := fun W a b h1 h2 => sameT_any _ a b W (maxLen_of (by have := pk_len seq L; omega)) h1 h2
    have CT2 : Hid (∀ W a b, SlS W a (pk seq (wholeL L)).1 → SlS W b (pk seq (wholeL L)).1 → Calls Try.prog 13 #[a, b] W fun e w' => e = .returned (.bool true) ∧ Below W.heap.size W w') := fun W a b h1 h2 => sameT_any _ a b W (maxLen_of (by have := pk_len seq (wholeL L); omega)) h1 h2
    clear hsm hel hlen hsl h600 hwl
    generalize pk seq L = p at *
    generalize wholeL L = M at *
    generalize pk seq M = q at *
    obtain ⟨p1, p2⟩ := p
    obtain ⟨q1, q2⟩ := q
    simp only at CP CR CP2 CR2 CT CT2
    have hp := same_not (x := (p2 : Int))
    have hq := same_is (x := (q2 : Int))
    go_enter Try.func3, Try.ntmps3
    go_wp2_with fail
    refine CS.out.mono ?_
    rintro e w1 ⟨rfl, hb1⟩
    have HB1 := Lib.hid hb1; clear hb1 CS
    go_wp2_with fail
    refine (CM.out _ HB1.out).mono ?_
    rintro e w2 ⟨rfl, rfl⟩
    go_wp2_with fail
    refine (CP.out _ HB1.out).mono ?_
    rintro e w3 ⟨u3, rfl, ho3, hb3⟩
    have HB3 := Lib.hid (HB1.out.trans (hb3.mono HB1.out.size))
    have HO3 := Lib.hid ho3.sl
    clear hb3 ho3
    go_wp2_with fail
    refine (CR.out _ HB3.out).mono ?_
    rintro e w4 ⟨u4, rfl, ho4, hb4⟩
    have HB4 := Lib.hid (HB3.out.trans (hb4.mono HB3.out.size))
    have HO4 := Lib.hid ho4.sl
    have HO3' := Lib.hid (HO3.out.below hb4)
    clear hb4 ho4 HO3 CR CP
    go_wp2_with fail
    refine (CT.out _ _ _ HO3'.out HO4.out).mono ?_
    rintro e w5 ⟨rfl, hb5⟩
    have HB5 := Lib.hid (HB4.out.trans (hb5.mono HB4.out.size))
    clear hb5 HO3' HO4 CT
    go_wp2_with fail
    refine (CW.out _ HB5.out).mono ?_
    rintro e w6 ⟨u6, rfl, ho6, hb6⟩
    have HB6 := Lib.hid (HB5.out.trans (hb6.mono HB5.out.size))
    have HO6 := Lib.hid ho6.sl
    clear hb6 ho6
    go_wp2_with fail
    refine (CP2.out _ _ HO6.out).mono ?_
    rintro e w7 ⟨u7, rfl, ho7, hb7⟩
    have HB7 := Lib.hid (HB6.out.trans (hb7.mono HB6.out.size))
    have HO7 := Lib.hid ho7.sl
    have HO6' := Lib.hid (HO6.out.below hb7)
    clear hb7 ho7 HO6
    go_wp2_with fail
    refine (CR2.out _ _ HO6'.out).mono ?_
    rintro e w8 ⟨u8, rfl, ho8, hb8⟩
    have HB8 := Lib.hid (HB7.out.trans (hb8.mono HB7.out.size))
    have HO8 := Lib.hid ho8.sl
    have HO7' := Lib.hid (HO7.out.below hb8)
    clear hb8 ho8 HO7
    go_wp2_with fail
    refine (CT2.out _ _ _ HO7'.out HO8.out).mono ?_
    rintro e w9 ⟨rfl, hb9⟩
    have HB9 := Lib.hid (HB8.out.trans (hb9.mono HB8.out.size))
    clear hb9
    go_wp2
    go_ret
    exact ⟨rfl, HB9.out⟩
end Go.Proofs.Ytkailodeojbnhaa
