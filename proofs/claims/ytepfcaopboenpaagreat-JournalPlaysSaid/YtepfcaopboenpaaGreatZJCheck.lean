/- What check answers: why writes cannot be committed. -/
import Derived.Test.YtepfcaopboenpaaGreatZJBase
import Derived.Test.YtepfcaopboenpaaGreatZFBase
import Derived.BigQuiet
import Derived.Deep.QuietTactic
import Derived.Deep.RegionHeld3

namespace Go.Proofs.YtepfcaopboenpaaGreat
open Go.RowKit
open Fr (SlW WritesAt)

section
variable {S : Nat → Prop} {w w' : World} {a p : Nat} {J : JS} {D : DevS} {v : Value} {L : List (Int × ByteArray)}

set_option maxRecDepth 100000 in
set_option maxHeartbeats 1000000 in
theorem jcheck_many (ao : Option Addr) (n c : Nat) (w : World) (h : n = 0 ∨ 48 < n) (hm : n ≤ 1000) :
    Calls Tryz.prog 55 #[.pointer (some ⟨a, 0, none⟩), .slice ao n c] w fun e w' => e = .returned (.int .i64 6) ∧ Below w.heap.size w w' := by
  rcases h with rfl | h
  · go_enter Tryz.func55, Tryz.ntmps55
    go_wp2
    go_ret
    exact ⟨rfl, Below.refl _ _⟩
  · have h0 : ((n : Int) == 0) = false := beq_eq_false_iff_ne.2 (by omega)
    have h1 : (48 : Int) < (n : Int) := by omega
    go_enter Tryz.func55, Tryz.ntmps55
    go_wp2
    go_ret
    exact ⟨rfl, Below.refl _ _⟩

set_option maxRecDepth 100000 in
set_option maxHeartbeats 1000000 in
theorem jcheck_some (b off c : Nat) (hj : Jr 79 w a p J) (hd : Stands S w p D) (ok : J.Ok D.disk.length) (h1 : 1 ≤ L.length) (h2 : L.length ≤ 48) (hs : ∀ x ∈ L, x.2.size ≤ maxLen) (hb : b < w.heap.size) (hc : WritesAt w b off L) :
    Calls Tryz.prog 55 #[.pointer (some ⟨a, 0, none⟩), .slice (some ⟨b, off, none⟩) L.length c] w fun e w' => e = .returned (.int .i64 ((J.chkL D.disk.length L : Nat) : Int)) ∧ Below w.heap.size w w' := by
  have HC := Lib.hid hc; clear hc
  have HS := Lib.hid hs; clear hs
  have hnd := hd.ok.few
  have hlog : J.log ≤ 4096 := by have := ok.l1; omega
  have CH : Hid (∀ W, Below w.heap.size w W → Calls Tryz.prog 18 #[.pointer (some ⟨a, 0, none⟩)] W fun e w' => e = .returned (.int .i64 J.home) ∧ W = w') := fun W hW => home_any (hj.below hW) hlog
  have CB : Hid (∀ W, Below w.heap.size w W → Calls Tryz.prog 49 #[.pointer (some ⟨p, 0, none⟩)] W fun e w' => e = .returned (.int .i64 D.disk.length) ∧ W = w') := fun W hW => blocks_any (hd.below hW)
  have HJ := Lib.hid hj; clear hj
  clear hd ok
  obtain ⟨nd, hnd'⟩ : ∃ n, D.disk.length = n := ⟨_, rfl⟩
  rw [hnd'] at CB hnd ⊢
  clear hnd'
  obtain ⟨n, hn⟩ : ∃ n, L.length = n := ⟨_, rfl⟩
  rw [hn] at h1 h2 ⊢
  have HN := Lib.hid hn; clear hn
  have h0 : ((n : Int) == 0) = false := beq_eq_false_iff_ne.2 (by omega)
  have h3 : ¬ (48 : Int) < (n : Int) := by omega
  have hho : J.home ≤ 4100 := by unfold JS.home; omega
  go_enter Tryz.func55, Tryz.ntmps55
  go_wp2
  go_loopw [17] (fun i wr => ∃ k : Nat, k ≤ n ∧ i = .int .i64 k ∧ Hid (J.chkL nd L = J.chkL nd (L.drop k)) ∧ Hid (Below w.heap.size w wr)) (fun i _ => n - (intOf i).toNat)
  case atStart => exact ⟨0, Nat.zero_le _, rfl, rfl, Below.refl _ _⟩
  case round =>
    obtain ⟨k, hk, rfl, HK, HB⟩ := hrel
    have hbr := HB.out.size
    by_cases hlt : k < n
    · have hkL : k < L.length := by rw [HN.out]; exact hlt
      obtain ⟨c0, c1⟩ := (HC.out.below HB.out hb) k hkL
      have hsz := HS.out L[k] (List.getElem_mem hkL)
      unfold maxLen at hsz
      have ca := (HJ.out.below HB.out).c0
      have hal := (HJ.out.below HB.out).lt
      obtain ⟨X, hX⟩ : ∃ X, wr.alloc (.cells #[.int .i64 L[k].1, .string L[k].2] 73) = X := ⟨_, rfl⟩
      have hXb : Below wr.heap.size wr X := by rw [← hX]; exact (Below.refl _ _).alloc (Nat.le_refl _) _
      have hXh : X.heap[wr.heap.size]? = some (.cells #[.int .i64 L[k].1, .string L[k].2] 73 (0, 0)) := by rw [← hX, heap_alloc_new]
      have x0 : X.cell? ⟨wr.heap.size, 0, none⟩ = some (.int .i64 L[k].1) := by rw [cell_at hXh]; rfl
      have x1 : X.cell? ⟨wr.heap.size, 1, none⟩ = some (.string L[k].2) := by rw [cell_at hXh]; rfl
      have xa : X.cell? ⟨a, 0, none⟩ = some (.pointer (some ⟨p, 0, none⟩)) := (hXb.cell (p := ⟨a, 0, none⟩) hal).trans ca
      have HXW : Hid (Below w.heap.size w X) := HB.out.trans (hXb.mono hbr)
      have HX := Lib.hid hX; clear hX hXb hXh ca
      by_cases hx : J.chk1 nd L[k] = 0
      · obtain ⟨g0, g1, g2⟩ := (J.chk1_ok nd _).1 hx
        have HK2 : Hid (J.chkL nd L = J.chkL nd (L.drop (k + 1))) := by show _ = _; rw [HK.out, J.chkL_drop nd L k hkL hx]
        clear hx
        generalize L[k] = x at *
        obtain ⟨xb, xd⟩ := x
        simp only at c0 c1 x0 x1 g0 g1 g2 hsz HX
        have hne : ((xd.size : Int) != 256) = false := by simp; omega
        have d1 : decide (xb < (J.home : Int)) = false := decide_eq_false (by omega)
        have d2 : decide ((nd : Int) ≤ xb) = false := decide_eq_false (by omega)
        have d1' : ¬ xb < (J.home : Int) := by omega
        have d2' : ¬ (nd : Int) ≤ xb := by omega
        generalize J.home = ho at *
        go_wp2_with fail
        rw [HX.out]
        go_region_held3 (fun W => W.cell? ⟨a, 0, none⟩ = some (.pointer (some ⟨p, 0, none⟩)) ∧ W.cell? ⟨wr.heap.size, 0, none⟩ = some (.int .i64 xb))
          (first | exact ⟨xa, x0⟩ | assumption)
          (first | (go_at_call 18; refine (CH.out _ ?_).mono ?_; exact HXW.out.drew; rintro e w' ⟨rfl, rfl⟩) | (go_at_call 49; refine (CB.out _ ?_).mono ?_; exact HXW.out.drew; rintro e w' ⟨rfl, rfl⟩))
        go_wp2
        go_roundw
        case rel => exact ⟨k + 1, by omega, by go_num, HK2, HXW.out.drew⟩
        case measure => simp [intOf]; omega
      · have HE := Lib.hid (show J.chkL nd L = J.chk1 nd L[k] by rw [HK.out, J.chkL_at nd L k hkL hx])
        generalize L[k] = x at *
        obtain ⟨xb, xd⟩ := x
        simp only at c0 c1 x0 x1 hsz HX
        unfold JS.chk1 at hx HE
        simp only at hx HE
        by_cases hr : xb < (J.home : Int) ∨ (nd : Int) ≤ xb
        · rw [if_pos hr] at HE
          clear hx
          generalize J.home = ho at *
          by_cases hr1 : xb < (ho : Int)
          · have d1 : decide (xb < (ho : Int)) = true := decide_eq_true hr1
            clear hr
            go_wp2_with fail
            rw [HX.out]
            go_quiet ((go_at_call 18; refine Calls.quiet_of_same (((CH.out _ ?_).mono (fun e w' h => ⟨h.1, h.2.symm⟩)));  exact ⟨HXW.out.os, HXW.out.tape, HXW.out.output, HXW.out.size, HXW.out.block⟩))
            go_wp2
            go_ret
            exact ⟨by rw [HE.out]; rfl, Fr.below_drewN HXW.out _⟩
          · have hr2 : (nd : Int) ≤ xb := by omega
            have d1 : decide (xb < (ho : Int)) = false := decide_eq_false hr1
            have d2 : decide ((nd : Int) ≤ xb) = true := decide_eq_true hr2
            clear hr
            go_wp2_with fail
            rw [HX.out]
            go_region_held3 (fun W => W.cell? ⟨a, 0, none⟩ = some (.pointer (some ⟨p, 0, none⟩)) ∧ W.cell? ⟨wr.heap.size, 0, none⟩ = some (.int .i64 xb))
              (first | exact ⟨xa, x0⟩ | assumption)
              (first | (go_at_call 18; refine (CH.out _ ?_).mono ?_; exact HXW.out.drew; rintro e w' ⟨rfl, rfl⟩) | (go_at_call 49; refine (CB.out _ ?_).mono ?_; exact HXW.out.drew; rintro e w' ⟨rfl, rfl⟩))
            go_wp2
            go_ret
            exact ⟨by rw [HE.out]; rfl, HXW.out.drew⟩
        · rw [if_neg hr] at hx HE
          have d1 : decide (xb < (J.home : Int)) = false := decide_eq_false (by omega)
          have d2 : decide ((nd : Int) ≤ xb) = false := decide_eq_false (by omega)
          have d1' : ¬ xb < (J.home : Int) := by omega
          have d2' : ¬ (nd : Int) ≤ xb := by omega
          clear hr
          by_cases hz : xd.size ≠ 256
          · rw [if_pos hz] at HE
            clear hx
            have hne : ((xd.size : Int) != 256) = true := by simp; omega
            clear hz
            generalize J.home = ho at *
            go_wp2_with fail
            rw [HX.out]
            go_region_held3 (fun W => W.cell? ⟨a, 0, none⟩ = some (.pointer (some ⟨p, 0, none⟩)) ∧ W.cell? ⟨wr.heap.size, 0, none⟩ = some (.int .i64 xb))
              (first | exact ⟨xa, x0⟩ | assumption)
              (first | (go_at_call 18; refine (CH.out _ ?_).mono ?_; exact HXW.out.drew; rintro e w' ⟨rfl, rfl⟩) | (go_at_call 49; refine (CB.out _ ?_).mono ?_; exact HXW.out.drew; rintro e w' ⟨rfl, rfl⟩))
            go_wp2
            go_ret
            exact ⟨by rw [HE.out]; rfl, HXW.out.drew⟩
          · rw [if_neg hz] at hx; exact absurd rfl hx
    · have hkn : k = n := by omega
      subst hkn
      have HE : Hid (J.chkL nd L = 0) := by show _ = _; rw [HK.out, List.drop_of_length_le (by rw [HN.out]; exact Nat.le_refl _)]; rfl
      go_wp2
      go_ret
      exact ⟨by rw [HE.out]; rfl, HB.out⟩

theorem jcheck_any (hj : Jr 79 w a p J) (hd : Stands S w p D) (ok : J.Ok D.disk.length) (hl : L.length ≤ 1000) (hs : ∀ x ∈ L, x.2.size ≤ maxLen) (h : SlW w v L) :
    Calls Tryz.prog 55 #[.pointer (some ⟨a, 0, none⟩), v] w fun e w' => e = .returned (.int .i64 ((J.chk D.disk.length L : Nat) : Int)) ∧ Below w.heap.size w w' := by
  unfold JS.chk
  by_cases h0 : L.length = 0 ∨ 48 < L.length
  · rw [if_pos h0]
    obtain ⟨ao, c, rfl, _⟩ := h
    exact jcheck_many ao _ c w h0 hl
  · rw [if_neg h0]
    obtain ⟨b, off, c, rfl, _, hb, hc⟩ := h.here (by omega)
    exact jcheck_some b off c hj hd ok (by omega) (by omega) hs hb hc
end
end Go.Proofs.YtepfcaopboenpaaGreat
/- What writeAll and settle answer and leave behind, for every journal over every device. -/
namespace Go.Proofs.YtepfcaopboenpaaGreat
open Go.RowKit
open Fr (SlW WritesAt)

section
variable {S S1 T : Nat → Prop} {w w1 w2 w' : World} {a p : Nat} {J : JS} {D D1 D2 : DevS} {v : Value} {L : List (Int × ByteArray)}

/-- A slice that does not lie in the blocks of S. -/
def Outs (S : Nat → Prop) (v : Value) : Prop := ∀ g off n c, v = .slice (some ⟨g, off, none⟩) n c → ¬ S g
theorem Outs.mono (h : Outs S v) (hs : ∀ k, T k → S k) : Outs T v := fun g off n c hv ht => h g off n c hv (hs g ht)
theorem SlW.only (h : SlW w v L) (ho : Only T w w') (hT : Outs T v) : SlW w' v L := by
  obtain ⟨ao, c, hv, hc, h⟩ := h
  refine ⟨ao, c, hv, hc, ?_⟩
  rcases h with h | ⟨b, off, e, hlt, h⟩
  · exact .inl h
  · subst e
    have hnt := hT b off _ _ hv
    refine .inr ⟨b, off, rfl, Nat.lt_of_lt_of_le hlt ho.size, fun j hj => ⟨?_, ?_⟩⟩
    · rw [ho.cell (p := ⟨b, off + j * 2, none⟩) hlt hnt]; exact (h j hj).1
    · rw [ho.cell (p := ⟨b, off + j * 2 + 1, none⟩) hlt hnt]; exact (h j hj).2
theorem Outs.of_lt (h : SlW w v L) (hs : ∀ k, S k → w.heap.size ≤ k) (hl : L ≠ []) : Outs S v := by
  intro g off n c hv hg
  obtain ⟨ao, c', hv', hc, h⟩ := h
  rcases h with h | ⟨b, off', e, hlt, h⟩
  · exact hl h
  · subst e; rw [hv'] at hv; cases hv; have := hs _ hg; omega

theorem Leaves.next (hS1 : ∀ k, S1 k → S k ∨ w.heap.size ≤ k) (ho : Only S w w1) (h : Leaves S1 w1 w2 p D2) : Leaves S w w2 p D2 := by
  obtain ⟨S2, hS2, hs, ho2⟩ := h
  refine ⟨S2, fun k hk => ?_, hs, ho.trans ho2 (fun i hi h1 => ?_)⟩
  · rcases hS2 k hk with h | h
    · exact hS1 k h
    · exact .inr (Nat.le_trans ho.size h)
  · rcases hS1 i h1 with h | h
    · exact h
    · omega
theorem Leaves.below (h : Leaves S w w1 p D1) (hb : Below w1.heap.size w1 w2) : Leaves S w w2 p D1 := by
  obtain ⟨S2, hS2, hs, ho2⟩ := h
  exact ⟨S2, hS2, hs.below hb, ho2.trans (Only.of_below (fun _ => False) hb (Nat.le_refl _)) (fun _ _ f => f.elim)⟩
theorem Leaves.from (hb : Below w.heap.size w w1) (h : Leaves S w1 w2 p D2) : Leaves S w w2 p D2 :=
  Leaves.next (fun _ h => .inl h) (Only.of_below S hb (Nat.le_refl _)) h
theorem Leaves.only (h : Leaves S w w1 p D1) : Only S w w1 := by obtain ⟨_, _, _, h⟩ := h; exact h
theorem Leaves.ok (h : Leaves S w w1 p D1) : D1.Ok := by obtain ⟨_, _, h, _⟩ := h; exact h.ok

theorem wrs_stop (D : DevS) (L : List (Int × ByteArray)) (k : Nat) (h : k < L.length) (h0 : (D.wrs (L.take k)).1 = 0) (he : ((D.wrs (L.take k)).2.wr L[k].1 L[k].2).1 ≠ 0) : D.wrs L = (D.wrs (L.take k)).2.wr L[k].1 L[k].2 := by
  have e1 : D.wrs (L.take (k + 1)) = (D.wrs (L.take k)).2.wr L[k].1 L[k].2 := by rw [take_snocL L k h, D.wrs_snoc _ _ h0]
  conv => lhs; rw [← List.take_append_drop (k + 1) L]
  rw [D.wrs_err _ _ (by rw [e1]; exact he), e1]
theorem wrs_goes (D : DevS) (L : List (Int × ByteArray)) (k : Nat) (h : k < L.length) (h0 : (D.wrs (L.take k)).1 = 0) (he : ((D.wrs (L.take k)).2.wr L[k].1 L[k].2).1 = 0) : (D.wrs (L.take (k + 1))).1 = 0 ∧ (D.wrs (L.take (k + 1))).2 = ((D.wrs (L.take k)).2.wr L[k].1 L[k].2).2 := by
  have e1 : D.wrs (L.take (k + 1)) = (D.wrs (L.take k)).2.wr L[k].1 L[k].2 := by rw [take_snocL L k h, D.wrs_snoc _ _ h0]
  rw [e1]; exact ⟨he, rfl⟩

set_option maxRecDepth 100000 in
set_option maxHeartbeats 1000000 in
theorem writeAll_some (b off c : Nat) (hj : Jr 79 w a p J) (hd : Stands S w p D) (ha : ¬ S a) (hl : L.length ≤ 10000) (hp : D.pend.length ≤ 900000) (hb : b < w.heap.size) (hc : WritesAt w b off L) (hs : ¬ S b) :
    Calls Tryz.prog 59 #[.pointer (some ⟨a, 0, none⟩), .slice (some ⟨b, off, none⟩) L.length c] w fun e w' => e = .returned (.int .i64 (D.wrs L).1) ∧ Leaves S w w' p (D.wrs L).2 := by
  have HC := Lib.hid hc; clear hc
  have HJ := Lib.hid hj; clear hj
  have HS := Lib.hid hs; clear hs
  have HA := Lib.hid ha; clear ha
  obtain ⟨n, hn⟩ : ∃ n, L.length = n := ⟨_, rfl⟩
  rw [hn] at hl ⊢
  have HN := Lib.hid hn; clear hn
  have HD := Lib.hid hd; clear hd
  go_enter Tryz.func59, Tryz.ntmps59
  go_wp2
  go_loopw [10] (fun i wr => ∃ k : Nat, k ≤ n ∧ i = .int .i64 k ∧ Hid ((D.wrs (L.take k)).1 = 0) ∧ Hid (Leaves S w wr p (D.wrs (L.take k)).2)) (fun i _ => n - (intOf i).toNat)
  case atStart => exact ⟨0, Nat.zero_le _, rfl, rfl, .mk HD.out (Only.refl _ _)⟩
  case round =>
    obtain ⟨k, hk, rfl, HK, HL⟩ := hrel
    by_cases hlt : k < n
    · have hkL : k < L.length := by rw [HN.out]; exact hlt
      have HO := HL.out.only
      have hbr := HO.size
      obtain ⟨S1, hS1, hs1, ho1⟩ := HL.out
      have hn1 : ∀ g, g < w.heap.size → ¬ S g → ¬ S1 g := fun g hg hs h => by rcases hS1 g h with h | h; exact hs h; omega
      have haw := HJ.out.lt
      have c0 : wr.cell? ⟨a, 0, none⟩ = some (.pointer (some ⟨p, 0, none⟩)) := (HO.cell (p := ⟨a, 0, none⟩) haw HA.out).trans HJ.out.c0
      obtain ⟨e0, e1⟩ := HC.out k hkL
      have d0 : wr.cell? ⟨b, off + k * 2, none⟩ = some (.int .i64 L[k].1) := (HO.cell (p := ⟨b, off + k * 2, none⟩) hb HS.out).trans e0
      have d1 : wr.cell? ⟨b, off + k * 2 + 1, none⟩ = some (.string L[k].2) := (HO.cell (p := ⟨b, off + k * 2 + 1, none⟩) hb HS.out).trans e1
      have hbb : b < wr.heap.size := Nat.lt_of_lt_of_le hb hbr
      obtain ⟨X, hX⟩ : ∃ X, wr.alloc (.cells #[.int .i64 L[k].1, .string L[k].2] 73) = X := ⟨_, rfl⟩
      have hXb : Below wr.heap.size wr X := by rw [← hX]; exact (Below.refl _ _).alloc (Nat.le_refl _) _
      have hXz : X.heap.size = wr.heap.size + 1 := by rw [← hX]; simp
      have hXh : X.heap[wr.heap.size]? = some (.cells #[.int .i64 L[k].1, .string L[k].2] 73 (0, 0)) := by rw [← hX, heap_alloc_new]
      have x0 : X.cell? ⟨wr.heap.size, 0, none⟩ = some (.int .i64 L[k].1) := by rw [cell_at hXh]; rfl
      have x1 : X.cell? ⟨wr.heap.size, 1, none⟩ = some (.string L[k].2) := by rw [cell_at hXh]; rfl
      have xa : X.cell? ⟨a, 0, none⟩ = some (.pointer (some ⟨p, 0, none⟩)) := (hXb.cell (p := ⟨a, 0, none⟩) (Nat.lt_of_lt_of_le haw hbr)).trans c0
      have hsX : Stands S1 X p (D.wrs (L.take k)).2 := hs1.below hXb
      have hpl : (D.wrs (L.take k)).2.pend.length ≤ 1000000 := by have := D.wrs_len (L.take k); rw [List.length_take] at this; omega
      have HW : Hid (∀ W, Below X.heap.size X W → Calls Tryz.prog 85 #[.pointer (some ⟨p, 0, none⟩), .int .i64 L[k].1, .string L[k].2] W fun e w' => e = .returned (.int .i64 ((D.wrs (L.take k)).2.wr L[k].1 L[k].2).1) ∧ Leaves S1 X w' p ((D.wrs (L.take k)).2.wr L[k].1 L[k].2).2) := by
        intro W hW
        exact (write_any L[k].1 L[k].2 hpl (hsX.below hW)).mono fun e w' ⟨he, hv⟩ => ⟨he, Leaves.from hW hv⟩
      have HKeep : Hid (∀ w' D', Leaves S1 X w' p D' → w'.cell? ⟨a, 0, none⟩ = some (.pointer (some ⟨p, 0, none⟩)) ∧ w'.cell? ⟨wr.heap.size, 0, none⟩ = some (.int .i64 L[k].1) ∧ w'.cell? ⟨wr.heap.size, 1, none⟩ = some (.string L[k].2)) := by
        intro w' D' h
        have h1 := h.only
        have na : ¬ S1 a := hn1 a haw HA.out
        have nx : ¬ S1 wr.heap.size := fun h => by have := hs1.lt _ h; omega
        exact ⟨(h1.cell (p := ⟨a, 0, none⟩) (by rw [hXz]; show a < _; omega) na).trans xa, (h1.cell (p := ⟨wr.heap.size, 0, none⟩) (by rw [hXz]; exact Nat.lt_succ_self _) nx).trans x0, (h1.cell (p := ⟨wr.heap.size, 1, none⟩) (by rw [hXz]; exact Nat.lt_succ_self _) nx).trans x1⟩
      have HLv : Hid (∀ w' D', Leaves S1 X w' p D' → Leaves S w w' p D') := fun w' D' h => Leaves.next hS1 ho1 (Leaves.from hXb h)
      have HSt := Lib.hid (wrs_stop D L k hkL HK.out)
      have HGo := Lib.hid (wrs_goes D L k hkL HK.out)
      clear hs1 ho1 hn1 HO e0 e1 c0 hXh hsX hpl hXb hXz haw
      have HX := Lib.hid hX; clear hX
      generalize (D.wrs (L.take k)).2.wr L[k].1 L[k].2 = R at *
      generalize L[k] = x at *
      obtain ⟨xb, xd⟩ := x
      obtain ⟨er, DR⟩ := R
      simp only at d0 d1 HX x0 x1 HW HKeep HSt HGo
      by_cases he : er = 0
      · have he' : (er != 0) = false := by simp [he]
        obtain ⟨g0, g1⟩ := HGo.out he
        have HG0 := Lib.hid g0; have HG1 := Lib.hid g1; clear g0 g1
        go_wp2_with fail
        rw [HX.out]
        go_region_held3 (fun W => W.cell? ⟨a, 0, none⟩ = some (.pointer (some ⟨p, 0, none⟩)) ∧ W.cell? ⟨wr.heap.size, 0, none⟩ = some (.int .i64 xb) ∧ W.cell? ⟨wr.heap.size, 1, none⟩ = some (.string xd))
          (first | exact ⟨xa, x0, x1⟩ | exact HKeep.out _ _ (by assumption))
          (first | (go_at_call 85; refine (HW.out _ ((Below.refl _ _).drew)).mono ?_; rintro e w' ⟨rfl, hlv⟩))
        have HF := Lib.hid (HLv.out _ _ hlv)
        clear hlv
        go_wp2
        go_roundw
        case rel => exact ⟨k + 1, by omega, by go_num, HG0, by rw [HG1.out]; exact HF.out⟩
        case measure => simp [intOf]; omega
      · have he' : (er != 0) = true := by simp [he]
        have HR := Lib.hid (HSt.out he)
        go_wp2_with fail
        rw [HX.out]
        go_region_held3 (fun W => W.cell? ⟨a, 0, none⟩ = some (.pointer (some ⟨p, 0, none⟩)) ∧ W.cell? ⟨wr.heap.size, 0, none⟩ = some (.int .i64 xb) ∧ W.cell? ⟨wr.heap.size, 1, none⟩ = some (.string xd))
          (first | exact ⟨xa, x0, x1⟩ | exact HKeep.out _ _ (by assumption))
          (first | (go_at_call 85; refine (HW.out _ ((Below.refl _ _).drew)).mono ?_; rintro e w' ⟨rfl, hlv⟩))
        have HF := Lib.hid (HLv.out _ _ hlv)
        clear hlv
        go_wp2
        go_ret
        exact ⟨by rw [HR.out]; rfl, by rw [HR.out]; exact HF.out⟩
    · have hkn : k = n := by omega
      subst hkn
      have e : L.take k = L := List.take_of_length_le (by rw [HN.out]; exact Nat.le_refl _)
      have HE : Hid ((D.wrs L).1 = 0) := by show _ = _; rw [← e]; exact HK.out
      have HF : Hid (Leaves S w wr p (D.wrs L).2) := by have := HL.out; rw [e] at this; exact this
      clear e
      go_wp2
      go_ret
      exact ⟨by rw [HE.out]; rfl, HF.out⟩

set_option maxRecDepth 100000 in
set_option maxHeartbeats 400000 in
theorem writeAll_none (ao : Option Addr) (c : Nat) :
    Calls Tryz.prog 59 #[.pointer (some ⟨a, 0, none⟩), .slice ao 0 c] w fun e w' => e = .returned (.int .i64 0) ∧ w = w' := by
  go_enter Tryz.func59, Tryz.ntmps59
  go_wp2
  go_loopw [10] (fun i wr => i = .int .i64 0 ∧ wr = w) (fun _ _ => 0)
  case atStart => exact ⟨rfl, rfl⟩
  case round =>
    obtain ⟨rfl, rfl⟩ := hrel
    go_wp2
    go_ret
    exact ⟨rfl, rfl⟩

theorem writeAll_any (hj : Jr 79 w a p J) (hd : Stands S w p D) (ha : ¬ S a) (hl : L.length ≤ 10000) (hp : D.pend.length ≤ 900000) (h : SlW w v L) (hs : Outs S v) :
    Calls Tryz.prog 59 #[.pointer (some ⟨a, 0, none⟩), v] w fun e w' => e = .returned (.int .i64 (D.wrs L).1) ∧ Leaves S w w' p (D.wrs L).2 := by
  by_cases h0 : L = []
  · obtain ⟨ao, c, rfl, _⟩ := h
    subst h0
    exact (writeAll_none ao c).mono fun e w' ⟨he, hw⟩ => by subst hw; exact ⟨he, .mk hd (Only.refl _ _)⟩
  · obtain ⟨b, off, c, rfl, _, hb, hc⟩ := h.here (List.length_pos_iff.2 h0)
    exact writeAll_some b off c hj hd ha hl hp hb hc (hs b off _ _ rfl)

set_option maxRecDepth 100000 in
set_option maxHeartbeats 1000000 in
theorem jsettle_any (hj : Jr 79 w a p J) (hd : Stands S w p D) (ha : ¬ S a) (hl : L.length ≤ 10000) (hp : D.pend.length ≤ 900000) (h : SlW w v L) (hs : Outs S v) :
    Calls Tryz.prog 51 #[.pointer (some ⟨a, 0, none⟩), v] w fun e w' => e = .returned (.int .i64 (D.stl L).1) ∧ Leaves S w w' p (D.stl L).2 := by
  have HW := Lib.hid (writeAll_any hj hd ha hl hp h hs)
  have hpl : (D.wrs L).2.pend.length ≤ 1000000 := by have := D.wrs_len L; omega
  have HP := Lib.hid hpl; clear hpl
  have HJ := Lib.hid hj; clear hj
  have HA := Lib.hid ha; clear ha
  obtain ⟨ao, c, rfl, _⟩ := h
  have HE : Hid (D.stl L = if (D.wrs L).1 ≠ 0 then D.wrs L else (D.wrs L).2.fl) := rfl
  generalize L.length = n at *
  clear hd hs hl hp
  generalize D.stl L = Z at *
  generalize D.wrs L = R at *
  obtain ⟨er, DR⟩ := R
  simp only at HW HP HE
  by_cases he : er = 0
  · have he' : (er != 0) = false := by simp [he]
    rw [if_neg (by simpa using he)] at HE
    go_enter Tryz.func51, Tryz.ntmps51
    go_wp2_with fail
    refine HW.out.mono ?_
    rintro e w1 ⟨rfl, hv⟩
    have c0 : w1.cell? ⟨a, 0, none⟩ = some (.pointer (some ⟨p, 0, none⟩)) := (hv.only.cell (p := ⟨a, 0, none⟩) HJ.out.lt HA.out).trans HJ.out.c0
    obtain ⟨S1, hS1, hs1, ho1⟩ := hv
    have HF : Hid (Calls Tryz.prog 77 #[.pointer (some ⟨p, 0, none⟩)] w1 fun e w' => e = .returned (.int .i64 DR.fl.1) ∧ Leaves S w w' p DR.fl.2) :=
      (flush_any HP.out hs1).mono fun e w' ⟨he, h1, h2⟩ => ⟨he, Leaves.next hS1 ho1 (.mk h1 h2)⟩
    clear hS1 hs1 ho1
    go_wp2_with fail
    refine HF.out.mono ?_
    rintro e w2 ⟨rfl, hv⟩
    have HV := Lib.hid hv; clear hv
    go_wp2
    go_ret
    exact ⟨by rw [HE.out]; rfl, by rw [HE.out]; exact HV.out⟩
  · have he' : (er != 0) = true := by simp [he]
    rw [if_pos (by simpa using he)] at HE
    go_enter Tryz.func51, Tryz.ntmps51
    go_wp2_with fail
    refine HW.out.mono ?_
    rintro e w1 ⟨rfl, hv⟩
    have HV := Lib.hid hv; clear hv
    go_wp2
    go_ret
    exact ⟨by rw [HE.out]; rfl, by rw [HE.out]; exact HV.out⟩
end
end Go.Proofs.YtepfcaopboenpaaGreat
/- What Checkpoint, add and Commit keep: in plain lists. -/
namespace Go.Proofs.YtepfcaopboenpaaGreat
open Go.RowKit
section
variable {J : JS} {D : DevS} {n : Nat} {L : List (Int × ByteArray)}

theorem JS.Ok.next' (h : J.Ok n) : J.next'.Ok n := by
  have hp := h.pos_lt 0
  exact ⟨h.l0, h.l1, by show J.pos 0 - 2 < J.log; omega, by show 1 - J.side ≤ 1; omega, Nat.zero_le _, Nat.mod_lt _ (by omega), h.n64, h.n64⟩
theorem JS.Ok.grow (h : J.Ok n) (m : Nat) (hm : J.full + m ≤ J.log) : (J.grow m).Ok n :=
  ⟨h.l0, h.l1, h.pl, h.si, hm, h.e64, h.s64, Nat.mod_lt _ (by omega)⟩
theorem JS.ckp_err (h : (J.ckp D).1 ≠ 0) : (J.ckp D).2.2 = J := by
  unfold JS.ckp at *
  simp only at *
  split
  · rfl
  · rename_i h1
    rw [if_neg h1] at h
    split
    · rfl
    · rename_i h2; rw [if_neg h2] at h; exact absurd rfl h
theorem JS.ckp_good (h : (J.ckp D).1 = 0) : (J.ckp D).2.2 = J.next' := by
  unfold JS.ckp at *
  simp only at *
  split
  · rename_i h1; rw [if_pos h1] at h; exact absurd h h1
  · rename_i h1
    rw [if_neg h1] at h
    split
    · rename_i h2; rw [if_pos h2] at h; exact absurd h h2
    · rfl
theorem JS.ckp_disk : (J.ckp D).2.1.disk.length = D.disk.length := by
  unfold JS.ckp
  simp only
  split
  · exact D.stl_disk _
  · split
    · rw [DevS.stl_disk, DevS.stl_disk]
    · rw [DevS.stl_disk, DevS.stl_disk]
theorem JS.ckp_len : (J.ckp D).2.1.pend.length ≤ D.pend.length + 2 := by
  unfold JS.ckp
  simp only
  split
  · have := D.stl_len [(((J.pos 0 : Nat) : Int), noughts)]; simp at this; show (D.stl [(((J.pos 0 : Nat) : Int), noughts)]).2.pend.length ≤ _; omega
  · have h1 := D.stl_len [(((J.pos 0 : Nat) : Int), noughts)]
    have h2 := (D.stl [(((J.pos 0 : Nat) : Int), noughts)]).2.stl_len [(((1 - J.side : Nat) : Int), slotB ((J.e + 1) % 18446744073709551616) J.next J.log (J.pos 0 - 2))]
    simp at h1 h2
    split <;> (simp only; omega)
theorem JS.addF_disk {top : ByteArray} {ds : List ByteArray} : (J.addF D top ds).2.1.disk.length = D.disk.length := by
  unfold JS.addF
  simp only
  split
  · exact D.stl_disk _
  · split
    · rw [DevS.stl_disk, DevS.stl_disk]
    · rw [DevS.stl_disk, DevS.stl_disk]
theorem JS.dataW_len (ds : List ByteArray) : (J.dataW ds).length = ds.length + 1 := by simp [JS.dataW]
theorem JS.addF_len {top : ByteArray} {ds : List ByteArray} : (J.addF D top ds).2.1.pend.length ≤ D.pend.length + ds.length + 2 := by
  unfold JS.addF
  simp only
  split
  · have := D.stl_len (J.dataW ds); rw [JS.dataW_len] at this; show (D.stl (J.dataW ds)).2.pend.length ≤ _; omega
  · have h1 := D.stl_len (J.dataW ds)
    have h2 := (D.stl (J.dataW ds)).2.stl_len [(((J.pos 0 : Nat) : Int), top)]
    rw [JS.dataW_len] at h1
    simp at h2
    split <;> (simp only; omega)
theorem JS.addF_err {top : ByteArray} {ds : List ByteArray} (h : (J.addF D top ds).1 ≠ 0) : (J.addF D top ds).2.2 = J := by
  unfold JS.addF at *
  simp only at *
  split
  · rfl
  · rename_i h1
    rw [if_neg h1] at h
    split
    · rfl
    · rename_i h2; rw [if_neg h2] at h; exact absurd rfl h
theorem JS.addF_good {top : ByteArray} {ds : List ByteArray} (h : (J.addF D top ds).1 = 0) : (J.addF D top ds).2.2 = J.grow (ds.length + 1) := by
  unfold JS.addF at *
  simp only at *
  split
  · rename_i h1; rw [if_pos h1] at h; exact absurd h h1
  · rename_i h1
    rw [if_neg h1] at h
    split
    · rename_i h2; rw [if_pos h2] at h; exact absurd h h2
    · rfl
end
end Go.Proofs.YtepfcaopboenpaaGreat
