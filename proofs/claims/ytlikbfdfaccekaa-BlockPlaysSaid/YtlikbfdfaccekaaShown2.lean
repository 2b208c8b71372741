/- The examples at the head of every statement come out true, and nothing that was there is changed. -/
import Derived.Test.YtlikbfdfaccekaaShown1
import Derived.Deep.RegionHeld3
namespace Go.Proofs.Ytlikbfdfaccekaa
open Go.RowKit

theorem held_next {w8 W W' : World} {g g2 : Nat} {A N : ByteArray} (h : Below w8.heap.size w8 W ∧ W.cell? ⟨g, 0, none⟩ = some (.int .i64 0) ∧ W.cell? ⟨g, 1, none⟩ = some (.string A) ∧ W.cell? ⟨g2, 0, none⟩ = some (.string N)) (hb : Below W.heap.size W W') :
    Below w8.heap.size w8 W' ∧ W'.cell? ⟨g, 0, none⟩ = some (.int .i64 0) ∧ W'.cell? ⟨g, 1, none⟩ = some (.string A) ∧ W'.cell? ⟨g2, 0, none⟩ = some (.string N) := by
  obtain ⟨h1, h2, h3, h4⟩ := h
  exact ⟨h1.trans (hb.mono h1.size), (hb.cell (World.block_lt_of_cell? _ _ h2)).trans h2, (hb.cell (World.block_lt_of_cell? _ _ h3)).trans h3, (hb.cell (World.block_lt_of_cell? _ _ h4)).trans h4⟩

theorem neqW (A : ByteArray) (w : World) : Sem.run Try.prog (binOp .neq 62 (.agg #[.int .i64 0, .string A]) (.agg #[.int .i64 0, .string A])) w = .ok (.bool false) w := by
  have u3 := Try.underlying3
  have u9 := Try.underlying9
  have hS : Try.prog.underlying 62 = some (.struct (Try.prog.fieldsOf 62)) := by kernel_rfl
  have hp : Try.prog.stoodInHeld 62 = false := by kernel_rfl
  rw [run_neq_struct, show (10000 : Nat) = 9999 + 1 from rfl, run_equalIn_agg w 9999 62 _ _ hS hp]
  simp only [Program.fieldsOf, Try.underlying62]
  go_simp

set_option maxRecDepth 100000 in
set_option maxHeartbeats 4000000 in
theorem shown_any (w : World) : Calls Try.prog 9 #[] w fun e w' => e = .returned (.bool true) ∧ Below w.heap.size w w' := by
  obtain ⟨N, hN⟩ : ∃ N, noughts = N := ⟨_, rfl⟩
  obtain ⟨A, hA⟩ : ∃ A, textOf (fun _ => 97) = A := ⟨_, rfl⟩
  obtain ⟨B, hB⟩ : ∃ B, textOf (fun _ => 98) = B := ⟨_, rfl⟩
  have hNs : N.size = 256 := by rw [← hN]; exact noughts_size
  have hAs : A.size = 256 := by rw [← hA]; exact textOf_size _
  have hBs : B.size = 256 := by rw [← hB]; exact textOf_size _
  have HZ : Hid (∀ W, Calls Try.prog 28 #[.int .u8 0] W fun e w' => e = .returned (.string N) ∧ Below W.heap.size W w') := by
    intro W; have := full_any 0 W; rw [zeros_eq, hN] at this; exact this
  have HA : Hid (∀ W, Calls Try.prog 28 #[.int .u8 97] W fun e w' => e = .returned (.string A) ∧ Below W.heap.size W w') := by
    intro W; have := full_any 97 W; rw [hA] at this; exact this
  have HB : Hid (∀ W, Calls Try.prog 28 #[.int .u8 98] W fun e w' => e = .returned (.string B) ∧ Below W.heap.size W w') := by
    intro W; have := full_any 98 W; rw [hB] at this; exact this
  have HX : Hid (layB B A 3 = ⟨#[98, 98, 98]⟩ ++ A.extract 3 A.size) := by
    show layB B A 3 = _; unfold layB; rw [← hB, bbb_eq]
  have HM : Hid (DevS.made 2 = ⟨[N, N], [], false, 0, false⟩) := by show DevS.made 2 = _; rw [← hN]; rfl
  have HNs := Lib.hid hNs; have HAs := Lib.hid hAs; have HBs := Lib.hid hBs
  clear hN hA hB hNs hAs hBs
  go_enter Try.func9, Try.ntmps9
  go_wp2_with fail
  refine (At.new 2 (by omega) (Below.refl _ w)).mono ?_
  rintro e w1 ⟨p, rfl, h1⟩
  rw [show (2 : Int).toNat = 2 from rfl, HM.out] at h1
  have H1 := Lib.hid h1; clear h1
  go_wp2_with fail
  refine (new_no 0 _ (by omega)).mono ?_
  rintro e w1' ⟨rfl, rfl⟩
  go_wp2_with fail
  refine (HA.out _).mono ?_
  rintro e w2 ⟨rfl, hb⟩
  have H2 := Lib.hid (H1.out.below hb); clear hb H1
  go_wp2_with fail
  refine (HB.out _).mono ?_
  rintro e w3 ⟨rfl, hb⟩
  have H3 := Lib.hid (H2.out.below hb); clear hb H2
  have c := H3.out.read 0 (Nat.zero_le _); rw [ex_r0] at c
  have C := Lib.hid c; clear c
  go_wp2_with fail
  refine C.out.mono ?_
  rintro e w4 ⟨rfl, h4⟩
  clear C H3
  have c := h4.write 0 A (Nat.zero_le _); rw [ex_w1 _ _ HAs.out] at c
  have C := Lib.hid c; clear c h4
  go_wp2_with fail
  refine C.out.mono ?_
  rintro e w5 ⟨rfl, h5⟩
  clear C
  have c := h5.read 0 (by simp); rw [ex_r1] at c
  have C := Lib.hid c; clear c h5
  go_wp2_with fail
  refine C.out.mono ?_
  rintro e w6 ⟨rfl, h6⟩
  clear C
  have c := h6.pending (by simp)
  have C := Lib.hid c; clear c h6
  go_wp2_with fail
  refine C.out.mono ?_
  rintro e w7 ⟨v, rfl, hown, hb, h7⟩
  clear C
  obtain ⟨g, cap, rfl⟩ := own_succ hown
  have cp0 : w7.cell? ⟨g, 0, none⟩ = some (.int .i64 0) := by rw [World.ownsRow.cellAt hown 0 (by simp)]; rfl
  have cp1 : w7.cell? ⟨g, 1, none⟩ = some (.string A) := by rw [World.ownsRow.cellAt hown 1 (by simp)]; rfl
  clear hown hb
  have c := h7.disk
  have C := Lib.hid c; clear c h7
  have CP0 := Lib.hid cp0; have CP1 := Lib.hid cp1; clear cp0 cp1
  go_wp2_with fail
  refine C.out.mono ?_
  rintro e w8 ⟨v, rfl, hown, hb, h8⟩
  clear C
  obtain ⟨g2, cap2, rfl⟩ := own_succ hown
  have cd0 : w8.cell? ⟨g2, 0, none⟩ = some (.string N) := by rw [World.ownsRow.cellAt hown 0 (by simp)]; rfl
  have cp0 : w8.cell? ⟨g, 0, none⟩ = some (.int .i64 0) := by rw [hb.cell (World.block_lt_of_cell? _ _ CP0.out)]; exact CP0.out
  have cp1 : w8.cell? ⟨g, 1, none⟩ = some (.string A) := by rw [hb.cell (World.block_lt_of_cell? _ _ CP1.out)]; exact CP1.out
  have H8 := Lib.hid h8
  clear hown hb CP0 CP1 h8
  go_wp2_with fail
  have hneq : ∀ W, Sem.run Try.prog (binOp .neq 62 (.agg #[.int .i64 0, .string A]) (.agg #[.int .i64 0, .string A])) W = .ok (.bool false) W := neqW A
  go_region_held3 (fun W => Below w8.heap.size w8 W ∧ W.cell? ⟨g, 0, none⟩ = some (.int .i64 0) ∧ W.cell? ⟨g, 1, none⟩ = some (.string A) ∧ W.cell? ⟨g2, 0, none⟩ = some (.string N))
    (first | exact ⟨(Below.refl _ _).drew, cp0, cp1, cd0⟩ | exact held_next (by assumption) (by assumption))
    (first | (go_at_call 28; refine (HZ.out _).mono ?_; rintro e w' ⟨rfl, hbx⟩))
  rename_i hHeld
  have H9 := Lib.hid (H8.out.below hHeld.1)
  clear hHeld hbx hneq cp0 cp1 cd0 H8
  have c := H9.out.write 0 B (by simp); rw [ex_w2 _ _ _ HBs.out] at c
  have C := Lib.hid c; clear c H9
  go_wp2_with fail
  refine C.out.mono ?_
  rintro e wa ⟨rfl, ha⟩
  clear C
  have c := ha.crash_one true 1 3 (by simp); rw [ex_c3 _ _ _ HNs.out HAs.out, HX.out] at c
  have C := Lib.hid c; clear c ha
  obtain ⟨X, hX⟩ : ∃ X, (⟨#[98, 98, 98]⟩ : ByteArray) ++ A.extract 3 A.size = X := ⟨_, rfl⟩
  rw [hX] at C
  have HX2 := Lib.hid hX; clear hX
  go_wp2_with fail
  refine C.out.mono ?_
  rintro e wb ⟨rfl, hb⟩
  clear C
  have c := hb.read 0 (by simp); rw [ex_r3] at c
  have C := Lib.hid c; clear c hb
  go_wp2_with fail
  refine C.out.mono ?_
  rintro e wc ⟨rfl, hc⟩
  clear C
  have c := hc.write 2 A (by simp); rw [ex_w4] at c
  have C := Lib.hid c; clear c hc
  have hA1 : 256 ≤ A.size := by rw [HAs.out]; exact Nat.le_refl _
  have hA2 : A.size ≤ 256 := by rw [HAs.out]; exact Nat.le_refl _
  have hX := HX2.out
  go_wp2_with fail
  refine C.out.mono ?_
  rintro e wd ⟨rfl, hd⟩
  clear C hX hA1 hA2
  have c := hd.write 0 ⟨#[120]⟩ (by simp); rw [ex_w5 _ _ _ (by decide)] at c
  have C := Lib.hid c; clear c hd
  go_wp2_with fail
  refine C.out.mono ?_
  rintro e we ⟨rfl, he⟩
  clear C
  have c := he.fuse 1 (by omega); rw [ex_u6] at c
  have C := Lib.hid c; clear c he
  go_wp2_with fail
  refine C.out.mono ?_
  rintro e wf ⟨rfl, hf⟩
  clear C
  have c := hf.write 0 A (by simp); rw [ex_w7 _ _ _ HAs.out] at c
  have C := Lib.hid c; clear c hf
  go_wp2_with fail
  refine C.out.mono ?_
  rintro e wg ⟨rfl, hg⟩
  clear C
  have c := hg.write 1 A (by simp); rw [ex_w8 _ _ _ HAs.out] at c
  have C := Lib.hid c; clear c hg
  go_wp2_with fail
  refine C.out.mono ?_
  rintro e wh ⟨rfl, hh⟩
  clear C
  have c := hh.read 0 (by simp); rw [ex_r9] at c
  have C := Lib.hid c; clear c hh
  go_wp2_with fail
  refine C.out.mono ?_
  rintro e wi ⟨rfl, hi⟩
  clear C
  have C := Lib.hid hi.dead
  have HI := Lib.hid hi; clear hi
  go_wp2_with fail
  refine C.out.mono ?_
  rintro e wi' ⟨rfl, rfl⟩
  clear C
  have C := Lib.hid HI.out.blocks
  go_wp2_with fail
  refine C.out.mono ?_
  rintro e wi' ⟨rfl, rfl⟩
  clear C
  go_wp2
  go_ret
  exact ⟨rfl, HI.out.bel⟩
end Go.Proofs.Ytlikbfdfaccekaa
