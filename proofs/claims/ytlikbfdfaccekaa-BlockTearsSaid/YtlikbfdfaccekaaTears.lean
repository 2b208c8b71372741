/- BlockTears answers true for every two texts and every number, and changes nothing that was there: the walk. -/
import Derived.Test.YtlikbfdfaccekaaShown2
import Derived.Deep.RegionWith
namespace Go.Proofs.Ytlikbfdfaccekaa
open Go.RowKit

section
variable (N A B : ByteArray)
theorem tr_w1 (hA : A.size = 256) : (DevS.mk [N] [] false 0 false).wr 0 A = (0, ⟨[N], [(0, A)], false, 0, false⟩) := by simp [DevS.wr, DevS.ck, DevS.tk, hA]
theorem tr_f2 (hN : N.size = 256) (hA : A.size = 256) : (DevS.mk [N] [(0, A)] false 0 false).fl = (0, ⟨[A], [], false, 0, false⟩) := by
  have h := layB_all A N hA hN
  simp [DevS.fl, DevS.tk, laidTo, layOne, h]
theorem tr_c4 (cut : Int) (c : Nat) (hc : (min (max cut 0) 256).toNat = c) : (DevS.mk [A] [(0, B)] false 0 false).crash [false] 0 cut = ⟨[layB B A c], [], false, 0, false⟩ := by
  simp [DevS.crash, laidTo, layOne, left, hc]
end

theorem disk_cell {w : World} {B g cap : Nat} {X : ByteArray} (h : w.ownsRow B 9 1 (.slice (some ⟨g, 0, none⟩) (0 + 1) cap) 1 ([X].map Value.string)) : w.cell? ⟨g, 0, none⟩ = some (.string X) := by
  rw [World.ownsRow.cellAt h 0 (by simp)]; rfl

set_option maxRecDepth 100000 in
set_option maxHeartbeats 4000000 in
theorem tears_some (s1 s2 : ByteArray) (cut : Int) (h1 : s1.size ≤ 600) (h2 : s2.size ≤ 600) (w : World) :
    Calls Try.prog 8 #[.string s1, .string s2, .int .i64 cut] w fun e w' => e = .returned (.bool true) ∧ Below w.heap.size w w' := by
  obtain ⟨c, hc⟩ : ∃ c : Nat, min (max cut 0) 256 = (c : Int) := Int.eq_ofNat_of_zero_le (by omega)
  have hc2 : c ≤ 256 := by omega
  have HCe := Lib.hid hc
  obtain ⟨N, hN⟩ : ∃ N, noughts = N := ⟨_, rfl⟩
  obtain ⟨A, hA⟩ : ∃ A, textOf (byteAt s1) = A := ⟨_, rfl⟩
  obtain ⟨B, hB⟩ : ∃ B, textOf (byteAt s2) = B := ⟨_, rfl⟩
  have hNs : N.size = 256 := by rw [← hN]; exact noughts_size
  have hAs : A.size = 256 := by rw [← hA]; exact textOf_size _
  have hBs : B.size = 256 := by rw [← hB]; exact textOf_size _
  have HA : Hid (∀ W, Calls Try.prog 29 #[.agg #[.int .i64 0, .int .i64 0, .int .i64 0, .slice none 0 0, .string s1]] W fun e w' => e = .returned (.string A) ∧ Below W.heap.size W w') := by
    intro W; have := data_fill 0 0 0 none 0 0 s1 W h1 (.inr rfl); rw [hA] at this; exact this
  have HB : Hid (∀ W, Calls Try.prog 29 #[.agg #[.int .i64 0, .int .i64 0, .int .i64 0, .slice none 0 0, .string s2]] W fun e w' => e = .returned (.string B) ∧ Below W.heap.size W w') := by
    intro W; have := data_fill 0 0 0 none 0 0 s2 W h2 (.inr rfl); rw [hB] at this; exact this
  have HM : Hid (DevS.made 1 = ⟨[N], [], false, 0, false⟩) := by show DevS.made 1 = _; rw [← hN]; rfl
  have HNs := Lib.hid hNs; have HAs := Lib.hid hAs; have HBs := Lib.hid hBs
  have HC : Hid ((min (max cut 0) 256).toNat = c) := by show _ = _; omega
  clear hN hA hB hNs hAs hBs hc
  go_enter Try.func8, Try.ntmps8
  go_wp2_with fail
  refine (shown_any _).mono ?_
  rintro e w1 ⟨rfl, hb1⟩
  have HB1 := Lib.hid hb1; clear hb1
  go_wp2_with fail
  refine (At.new 1 (by omega) HB1.out).mono ?_
  rintro e w2 ⟨p, rfl, hd⟩
  rw [show (1 : Int).toNat = 1 from rfl, HM.out] at hd
  have H2 := Lib.hid hd; clear hd HB1
  go_wp2_with fail
  refine (HA.out _).mono ?_
  rintro e w3 ⟨rfl, hb⟩
  have H3 := Lib.hid (H2.out.below hb); clear hb H2
  go_wp2_with fail
  refine (HB.out _).mono ?_
  rintro e w4 ⟨rfl, hb⟩
  have H4 := Lib.hid (H3.out.below hb); clear hb H3
  have cc := H4.out.write 0 A (by simp); rw [tr_w1 _ _ HAs.out] at cc
  have C := Lib.hid cc; clear cc H4
  go_wp2_with fail
  refine C.out.mono ?_
  rintro e w5 ⟨rfl, hd⟩
  clear C
  have cc := hd.flush (by simp); rw [tr_f2 _ _ HNs.out HAs.out] at cc
  have C := Lib.hid cc; clear cc hd
  go_wp2_with fail
  refine C.out.mono ?_
  rintro e w6 ⟨rfl, hd⟩
  clear C
  have cc := hd.write 0 B (by simp); rw [tr_w1 _ _ HBs.out] at cc
  have C := Lib.hid cc; clear cc hd
  go_wp2_with fail
  refine C.out.mono ?_
  rintro e w7 ⟨rfl, hd⟩
  clear C
  have cc := hd.crash_one false 0 cut (by simp); rw [tr_c4 _ _ _ _ HC.out] at cc
  unfold layB at cc
  have C := Lib.hid cc; clear cc hd
  go_wp2_with fail
  refine C.out.mono ?_
  rintro e w8 ⟨rfl, hd⟩
  clear C
  have C := Lib.hid (hd.below (Below.refl _ _).drew).disk; clear hd
  go_wp2_with fail
  rw [HCe.out]
  have hA1 : 256 ≤ A.size := by rw [HAs.out]; exact Nat.le_refl _
  have hB1 : 256 ≤ B.size := by rw [HBs.out]; exact Nat.le_refl _
  have hA2 : A.size ≤ 256 := by rw [HAs.out]; exact Nat.le_refl _
  have hB2 : B.size ≤ 256 := by rw [HBs.out]; exact Nat.le_refl _
  have hm1 : c ≤ A.size := by omega
  have hm2 : c ≤ B.size := by omega
  go_region_with (go_at_call 18; refine C.out.mono ?_; rintro e w9 ⟨v, rfl, hown, hb, hd⟩; obtain ⟨g, cap, rfl⟩ := own_succ hown; have cd0 := disk_cell hown; have HD := Lib.hid hd; clear hown hb hd)
  all_goals
    have HBL := Lib.hid HD.out.bel
    simp only [Act.put, List.getElem_toArray, List.getElem_cons_succ, List.getElem_cons_zero, List.setIfInBounds_toArray, List.set_cons_succ, List.set_cons_zero]
    go_wp2
    go_ret
    exact ⟨by simp, HBL.out⟩

set_option maxRecDepth 100000 in
set_option maxHeartbeats 1000000 in
theorem tears_long (s1 s2 : ByteArray) (cut : Int) (h : 600 < s1.size ∨ 600 < s2.size) (w : World) :
    Calls Try.prog 8 #[.string s1, .string s2, .int .i64 cut] w fun e w' => e = .returned (.bool true) ∧ Below w.heap.size w w' := by
  have hx : 600 < s1.size ∨ (s1.size ≤ 600 ∧ 600 < s2.size) := by omega
  clear h
  rcases hx with h | ⟨h, h'⟩
  all_goals
    go_enter Try.func8, Try.ntmps8
    go_wp2_with fail
    refine (shown_any _).mono ?_
    rintro e w1 ⟨rfl, hb1⟩
    have HB1 := Lib.hid hb1; clear hb1
    go_wp2
    go_ret
    exact ⟨rfl, HB1.out⟩

theorem tears_any (s1 s2 : ByteArray) (cut : Int) (w : World) :
    Calls Try.prog 8 #[.string s1, .string s2, .int .i64 cut] w fun e w' => e = .returned (.bool true) ∧ Below w.heap.size w w' := by
  by_cases h : s1.size ≤ 600 ∧ s2.size ≤ 600
  · exact tears_some s1 s2 cut h.1 h.2 w
  · exact tears_long s1 s2 cut (by omega) w

end Go.Proofs.Ytlikbfdfaccekaa
