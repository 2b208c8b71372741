/- What check answers: why writes cannot be committed. -/
import Derived.Test.YtodfcbpimglhdaaJBase
import Derived.Test.YtodfcbpimglhdaaFCheck
import Derived.BigQuiet
import Derived.Deep.QuietTactic
import Derived.Deep.RegionHeld3
namespace Go.Proofs.Ytodfcbpimglhdaa
open Go.RowKit
open Fr (SlW WritesAt)

section
variable {S : Nat → Prop} {w w' : World} {a p : Nat} {J : JS} {D : DevS} {v : Value} {L : List (Int × ByteArray)}

set_option maxRecDepth 100000 in
set_option maxHeartbeats 1000000 in
theorem jcheck_many (ao : Option Addr) (n c : Nat) (w : World) (h : n = 0 ∨ 48 < n) (hm : n ≤ 1000) :
    Calls Try.prog 60 #[.pointer (some ⟨a, 0, none⟩), .slice ao n c] w fun e w' => e = .returned (.int .i64 6) ∧ Below w.heap.size w w' := by
  rcases h with rfl | h
  · go_enter Try.func60, Try.ntmps60
    go_wp2
    go_ret
    exact ⟨rfl, Below.refl _ _⟩
  · have h0 : ((n : Int) == 0) = false := beq_eq_false_iff_ne.2 (by omega)
    have h1 : (48 : Int) < (n : Int) := by omega
    go_enter Try.func60, Try.ntmps60
    go_wp2
    go_ret
    exact ⟨rfl, Below.refl _ _⟩

set_option maxRecDepth 100000 in
set_option maxHeartbeats 1000000 in
theorem jcheck_some (b off c : Nat) (hj : Jr 85 w a p J) (hd : Stands S w p D) (ok : J.Ok D.disk.length) (h1 : 1 ≤ L.length) (h2 : L.length ≤ 48) (hs : ∀ x ∈ L, x.2.size ≤ maxLen) (hb : b < w.heap.size) (hc : WritesAt w b off L) :
    Calls Try.prog 60 #[.pointer (some ⟨a, 0, none⟩), .slice (some ⟨b, off, none⟩) L.length c] w fun e w' => e = .returned (.int .i64 ((J.chkL D.disk.length L : Nat) : Int)) ∧ Below w.heap.size w w' := by
  have HC := Lib.hid hc; clear hc
  have HS := Lib.hid hs; clear hs
  have hnd := hd.ok.few
  have hlog : J.log ≤ 4096 := by have := ok.l1; omega
  have CH : Hid (∀ W, Below w.heap.size w W → Calls Try.prog 21 #[.pointer (some ⟨a, 0, none⟩)] W fun e w' => e = .returned (.int .i64 J.home) ∧ W = w') := fun W hW => home_any (hj.below hW) hlog
  have CB : Hid (∀ W, Below w.heap.size w W → Calls Try.prog 38 #[.pointer (some ⟨p, 0, none⟩)] W fun e w' => e = .returned (.int .i64 D.disk.length) ∧ W = w') := fun W hW => blocks_any (hd.below hW)
  have HJ := Lib.hid hj; clear hj
  clear hd ok
  obtain ⟨nd, hnd'⟩ : ∃ n, D.disk.length = n := ⟨_, rfl⟩
  rw [hnd'] at CB hnd ⊢
  clear hnd'
  obtain ⟨n, hn⟩ : ∃ n, L.length = n := ⟨_, rfl⟩
  rw [hn] at h1 h2 ⊢
  have HN := Lib.hid hn; clear hn
  have h0 : ((n : Int) == 0) = false := beq_eq_false_iff_ne.2 (by omega)
  have h3 : ¬ (48 : Int) < (n : Int) := by omega
  have hho : J.home ≤ 4100 := by unfold JS.home; omega
  go_enter Try.func60, Try.ntmps60
  go_wp2
  go_loopw [17] (fun i wr => ∃ k : Nat, k ≤ n ∧ i = .int .i64 k ∧ Hid (J.chkL nd L = J.chkL nd (L.drop k)) ∧ Hid (Below w.heap.size w wr)) (fun i _ => n - (intOf i).toNat)
  case atStart => exact ⟨0, Nat.zero_le _, rfl, rfl, Below.refl _ _⟩
  case round =>
    obtain ⟨k, hk, rfl, HK, HB⟩ := hrel
    have hbr := HB.out.size
    by_cases hlt : k < n
    · have hkL : k < L.length := by rw [HN.out]; exact hlt
      obtain ⟨c0, c1⟩ := (HC.out.below HB.out hb) k hkL
      have hsz := HS.out L[k] (List.getElem_mem hkL)
      unfold maxLen at hsz
      have ca := (HJ.out.below HB.out).c0
      have hal := (HJ.out.below HB.out).lt
      obtain ⟨X, hX⟩ : ∃ X, wr.alloc (.cells #[.int .i64 L[k].1, .string L[k].2] 71) = X := ⟨_, rfl⟩
      have hXb : Below wr.heap.size wr X := by rw [← hX]; exact (Below.refl _ _).alloc (Nat.le_refl _) _
      have hXh : X.heap[wr.heap.size]? = some (.cells #[.int .i64 L[k].1, .string L[k].2] 71 (0, 0)) := by rw [← hX, heap_alloc_new]
      have x0 : X.cell? ⟨wr.heap.size, 0, none⟩ = some (.int .i64 L[k].1) := by rw [cell_at hXh]; rfl
      have x1 : X.cell? ⟨wr.heap.size, 1, none⟩ = some (.string L[k].2) := by rw [cell_at hXh]; rfl
      have xa : X.cell? ⟨a, 0, none⟩ = some (.pointer (some ⟨p, 0, none⟩)) := (hXb.cell (p := ⟨a, 0, none⟩) hal).trans ca
      have HXW : Hid (Below w.heap.size w X) := HB.out.trans (hXb.mono hbr)
      have HX := Lib.hid hX; clear hX hXb hXh ca
      by_cases hx : J.chk1 nd L[k] = 0
      · obtain ⟨g0, g1, g2⟩ := (J.chk1_ok nd _).1 hx
        have HK2 : Hid (J.chkL nd L = J.chkL nd (L.drop (k + 1))) := by show _ = _; rw [HK.out, J.chkL_drop nd L k hkL hx]
        clear hx
        generalize L[k] = x at *
        obtain ⟨xb, xd⟩ := x
        simp only at c0 c1 x0 x1 g0 g1 g2 hsz HX
        have hne : ((xd.size : Int) != 256) = false := by simp; omega
        have d1 : decide (xb < (J.home : Int)) = false := decide_eq_false (by omega)
        have d2 : decide ((nd : Int) ≤ xb) = false := decide_eq_false (by omega)
        have d1' : ¬ xb < (J.home : Int) := by omega
        have d2' : ¬ (nd : Int) ≤ xb := by omega
        generalize J.home = ho at *
        go_wp2_with fail
        rw [HX.out]
        go_region_held3 (fun W => W.cell? ⟨a, 0, none⟩ = some (.pointer (some ⟨p, 0, none⟩)) ∧ W.cell? ⟨wr.heap.size, 0, none⟩ = some (.int .i64 xb))
          (first | exact ⟨xa, x0⟩ | assumption)
          (first | (go_at_call 21; refine (CH.out _ ?_).mono ?_; exact HXW.out.drew; rintro e w' ⟨rfl, rfl⟩) | (go_at_call 38; refine (CB.out _ ?_).mono ?_; exact HXW.out.drew; rintro e w' ⟨rfl, rfl⟩))
        go_wp2
        go_roundw
        case rel => exact ⟨k + 1, by omega, by go_num, HK2, HXW.out.drew⟩
        case measure => simp [intOf]; omega
      · have HE := Lib.hid (show J.chkL nd L = J.chk1 nd L[k] by rw [HK.out, J.chkL_at nd L k hkL hx])
        generalize L[k] = x at *
        obtain ⟨xb, xd⟩ := x
        simp only at c0 c1 x0 x1 hsz HX
        unfold JS.chk1 at hx HE
        simp only at hx HE
        by_cases hr : xb < (J.home : Int) ∨ (nd : Int) ≤ xb
        · rw [if_pos hr] at HE
          clear hx
          generalize J.home = ho at *
          by_cases hr1 : xb < (ho : Int)
          · have d1 : decide (xb < (ho : Int)) = true := decide_eq_true hr1
            clear hr
            go_wp2_with fail
            rw [HX.out]
            go_quiet ((go_at_call 21; refine Calls.quiet_of_same (((CH.out _ ?_).mono (fun e w' h => ⟨h.1, h.2.symm⟩)));  exact ⟨HXW.out.os, HXW.out.tape, HXW.out.output, HXW.out.size, HXW.out.block⟩))
            go_wp2
            go_ret
            exact ⟨by rw [HE.out]; rfl, Fr.below_drewN HXW.out _⟩
          · have hr2 : (nd : Int) ≤ xb := by omega
            have d1 : decide (xb < (ho : Int)) = false := decide_eq_false hr1
            have d2 : decide ((nd : Int) ≤ xb) = true := decide_eq_true hr2
            clear hr
            go_wp2_with fail
            rw [HX.out]
            go_region_held3 (fun W => W.cell? ⟨a, 0, none⟩ = some (.pointer (some ⟨p, 0, none⟩)) ∧ W.cell? ⟨wr.heap.size, 0, none⟩ = some (.int .i64 xb))
              (first | exact ⟨xa, x0⟩ | assumption)
              (first | (go_at_call 21; refine (CH.out _ ?_).mono ?_; exact HXW.out.drew; rintro e w' ⟨rfl, rfl⟩) | (go_at_call 38; refine (CB.out _ ?_).mono ?_; exact HXW.out.drew; rintro e w' ⟨rfl, rfl⟩))
            go_wp2
            go_ret
            exact ⟨by rw [HE.out]; rfl, HXW.out.drew⟩
        · rw [if_neg hr] at hx HE
          have d1 : decide (xb < (J.home : Int)) = false := decide_eq_false (by omega)
          have d2 : decide ((nd : Int) ≤ xb) = false := decide_eq_false (by omega)
          have d1' : ¬ xb < (J.home : Int) := by omega
          have d2' : ¬ (nd : Int) ≤ xb := by omega
          clear hr
          by_cases hz : xd.size ≠ 256
          · rw [if_pos hz] at HE
            clear hx
            have hne : ((xd.size : Int) != 256) = true := by simp; omega
            clear hz
            generalize J.home = ho at *
            go_wp2_with fail
            rw [HX.out]
            go_region_held3 (fun W => W.cell? ⟨a, 0, none⟩ = some (.pointer (some ⟨p, 0, none⟩)) ∧ W.cell? ⟨wr.heap.size, 0, none⟩ = some (.int .i64 xb))
              (first | exact ⟨xa, x0⟩ | assumption)
              (first | (go_at_call 21; refine (CH.out _ ?_).mono ?_; exact HXW.out.drew; rintro e w' ⟨rfl, rfl⟩) | (go_at_call 38; refine (CB.out _ ?_).mono ?_; exact HXW.out.drew; rintro e w' ⟨rfl, rfl⟩))
            go_wp2
            go_ret
            exact ⟨by rw [HE.out]; rfl, HXW.out.drew⟩
          · rw [if_neg hz] at hx; exact absurd rfl hx
    · have hkn : k = n := by omega
      subst hkn
      have HE : Hid (J.chkL nd L = 0) := by show _ = _; rw [HK.out, List.drop_of_length_le (by rw [HN.out]; exact Nat.le_refl _)]; rfl
      go_wp2
      go_ret
      exact ⟨by rw [HE.out]; rfl, HB.out⟩

theorem jcheck_any (hj : Jr 85 w a p J) (hd : Stands S w p D) (ok : J.Ok D.disk.length) (hl : L.length ≤ 1000) (hs : ∀ x ∈ L, x.2.size ≤ maxLen) (h : SlW w v L) :
    Calls Try.prog 60 #[.pointer (some ⟨a, 0, none⟩), v] w fun e w' => e = .returned (.int .i64 ((J.chk D.disk.length L : Nat) : Int)) ∧ Below w.heap.size w w' := by
  unfold JS.chk
  by_cases h0 : L.length = 0 ∨ 48 < L.length
  · rw [if_pos h0]
    obtain ⟨ao, c, rfl, _⟩ := h
    exact jcheck_many ao _ c w h0 hl
  · rw [if_neg h0]
    obtain ⟨b, off, c, rfl, _, hb, hc⟩ := h.here (by omega)
    exact jcheck_some b off c hj hd ok (by omega) (by omega) hs hb hc
end
end Go.Proofs.Ytodfcbpimglhdaa
