/- The chapter's examples of runes: shown answers true. -/
import Derived.Test.YtbmpnakhaeaneaaDoorUFoldP
namespace Go.Proofs.YtbmpnakhaeaneaaDoor
open Go.RowKit

theorem below_nextU {B : Nat} {w w1 w2 : World} (h : Below B w w1) (hB : B ≤ w1.heap.size) (hb : Below w1.heap.size w1 w2) : Below B w w2 := h.trans (hb.mono hB)
set_option maxRecDepth 100000 in
set_option maxHeartbeats 4000000 in
theorem shown10_any (w : World) (hT : Tabs w) : Calls Tryd.prog 9 #[] w fun e w' => e = .returned (.bool true) ∧ Below w.heap.size w w' := by
  have R : ∀ (l : List UInt8) (r : Int) (n : Nat), l.length ≤ 1000 → runeL l = (r, n) → Hid (∀ W, Below w.heap.size w W → Calls Tryd.prog 10 #[.string (utxt l)] W fun e w' => e = .returned (.tuple #[.int .i64 r, .int .i64 (n : Int)]) ∧ Below W.heap.size W w') := fun l r n h1 h2 W hbW => by
    have := prune_any (utxt l) W (hT.below hbW) (by rw [utxt_size]; omega)
    rw [utxt_data, h2] at this; exact this
  have K : ∀ (r : Int) (k : Nat), (-9223372036854775808 ≤ r ∧ r ≤ 9223372036854775807) → kindI r = k → Hid (∀ W, Below w.heap.size w W → Calls Tryd.prog 15 #[.int .i64 r] W fun e w' => e = .returned (.int .i64 (k : Int)) ∧ Below W.heap.size W w') := fun r k h1 h2 W hbW => by
    have := pkind_any r W (hT.below hbW) h1
    rw [h2] at this; exact this
  have R1 := R [195, 169] 233 2 (by decide) (by decide)
  have R2 := R [195, 40] (-1) 1 (by decide) (by decide)
  have R3 := R [237, 160, 128] (-1) 1 (by decide) (by decide)
  have R4 := R [] (-1) 0 (by decide) (by decide)
  have K1 := K 97 1 (by omega) (by decide)
  have K2 := K 55 2 (by omega) (by decide)
  have K3 := K 32 3 (by omega) (by decide)
  have K4 := K 45 0 (by omega) (by decide)
  have K5 := K 20013 1 (by omega) (by decide)
  have K6 := K 1632 2 (by omega) (by decide)
  have F1 : Hid (∀ W, Below w.heap.size w W → Calls Tryd.prog 21 #[.string (utxt [195, 132, 195, 150, 32, 206, 163, 207, 130, 32, 208, 150])] W fun e w' => e = .returned (.string (utxt [195, 164, 195, 182, 32, 207, 131, 207, 131, 32, 208, 182])) ∧ Below W.heap.size W w') := fun W hbW => by
    have := pfolded_any (utxt [195, 132, 195, 150, 32, 206, 163, 207, 130, 32, 208, 150]) W (hT.below hbW) (by rw [utxt_size]; decide)
    rw [utxt_data, show foldedL [195, 132, 195, 150, 32, 206, 163, 207, 130, 32, 208, 150] = [195, 164, 195, 182, 32, 207, 131, 207, 131, 32, 208, 182] from by decide] at this
    exact this
  clear R K hT
  have HB0 : Hid (Below w.heap.size w w) := Below.refl _ _
  go_enter Tryd.func9, Tryd.ntmps9
  go_wp2_with fail
  refine (R1.out _ HB0.out).mono ?_
  rintro e w1 ⟨rfl, hb⟩
  have H1 := Lib.hid (below_nextU HB0.out (Nat.le_refl _) hb)
  have z1 := H1.out.size
  clear hb
  go_wp2_with fail
  refine (R2.out _ H1.out).mono ?_
  rintro e w2 ⟨rfl, hb⟩
  have H2 := Lib.hid (below_nextU H1.out z1 hb)
  have z2 := H2.out.size
  clear hb z1
  go_wp2_with fail
  refine (R3.out _ H2.out).mono ?_
  rintro e w3 ⟨rfl, hb⟩
  have H3 := Lib.hid (below_nextU H2.out z2 hb)
  have z3 := H3.out.size
  clear hb z2
  go_wp2_with fail
  refine (R4.out _ H3.out).mono ?_
  rintro e w4 ⟨rfl, hb⟩
  have H4 := Lib.hid (below_nextU H3.out z3 hb)
  have z4 := H4.out.size
  clear hb z3
  go_wp2_with fail
  refine (K1.out _ H4.out).mono ?_
  rintro e w5 ⟨rfl, hb⟩
  have H5 := Lib.hid (below_nextU H4.out z4 hb)
  have z5 := H5.out.size
  clear hb z4
  go_wp2_with fail
  refine (K2.out _ H5.out).mono ?_
  rintro e w6 ⟨rfl, hb⟩
  have H6 := Lib.hid (below_nextU H5.out z5 hb)
  have z6 := H6.out.size
  clear hb z5
  go_wp2_with fail
  refine (K3.out _ H6.out).mono ?_
  rintro e w7 ⟨rfl, hb⟩
  have H7 := Lib.hid (below_nextU H6.out z6 hb)
  have z7 := H7.out.size
  clear hb z6
  go_wp2_with fail
  refine (K4.out _ H7.out).mono ?_
  rintro e w8 ⟨rfl, hb⟩
  have H8 := Lib.hid (below_nextU H7.out z7 hb)
  have z8 := H8.out.size
  clear hb z7
  go_wp2_with fail
  refine (K5.out _ H8.out).mono ?_
  rintro e w9 ⟨rfl, hb⟩
  have H9 := Lib.hid (below_nextU H8.out z8 hb)
  have z9 := H9.out.size
  clear hb z8
  go_wp2_with fail
  refine (K6.out _ H9.out).mono ?_
  rintro e w10 ⟨rfl, hb⟩
  have H10 := Lib.hid (below_nextU H9.out z9 hb)
  have z10 := H10.out.size
  clear hb z9
  go_wp2_with fail
  refine (F1.out _ H10.out).mono ?_
  rintro e w11 ⟨rfl, hb⟩
  have H11 := Lib.hid (below_nextU H10.out z10 hb)
  clear hb
  have hx : ((utxt [195, 164, 195, 182, 32, 207, 131, 207, 131, 32, 208, 182]).toList == [195, 164, 195, 182, 32, 207, 131, 207, 131, 32, 208, 182]) = true := by rw [ByteArray.toList_eq]; rfl
  go_wp2
  go_ret
  exact ⟨by first | rfl | exact congrArg (fun b => Ending.returned (.bool b)) hx, H11.out⟩
end Go.Proofs.YtbmpnakhaeaneaaDoor
