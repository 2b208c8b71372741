/- A journal in memory, and what its smallest calls answer: Seq, Home, Used, left, behind, grow, fits, noughts. -/
import Derived.Test.YthambopnmhkeeaaGreatZLOpen
import Derived.Test.YthambopnmhkeeaaGreatZFBase
import Derived.Deep.RegionHeld3
import Derived.Deep.RegionWith
import Derived.BigQuiet
import Derived.Deep.QuietTactic
import Derived.Test.YthambopnmhkeeaaGreatZWFix

namespace Go.Proofs.YthambopnmhkeeaaGreat
open Go.RowKit
open Fr (bs fixL nmAt)

def JCells (p : Nat) (J : JS) : Array Value := #[.pointer (some ⟨p, 0, none⟩), .int .u64 J.e, .int .u64 J.s, .int .i64 J.log, .int .i64 J.p, .int .i64 J.side, .int .u64 J.next, .int .i64 J.full]
def Jr (t : TypeId) (w : World) (a p : Nat) (J : JS) : Prop := w.heap[a]? = some (.cells (JCells p J) t (0, 0))
section
variable {t : TypeId} {w w' : World} {a p : Nat} {J : JS}
theorem Jr.c0 (h : Jr t w a p J) : w.cell? ⟨a, 0, none⟩ = some (.pointer (some ⟨p, 0, none⟩)) := by rw [cell_at h]; rfl
theorem Jr.c1 (h : Jr t w a p J) : w.cell? ⟨a, 1, none⟩ = some (.int .u64 J.e) := by rw [cell_at h]; rfl
theorem Jr.c2 (h : Jr t w a p J) : w.cell? ⟨a, 2, none⟩ = some (.int .u64 J.s) := by rw [cell_at h]; rfl
theorem Jr.c3 (h : Jr t w a p J) : w.cell? ⟨a, 3, none⟩ = some (.int .i64 J.log) := by rw [cell_at h]; rfl
theorem Jr.c4 (h : Jr t w a p J) : w.cell? ⟨a, 4, none⟩ = some (.int .i64 J.p) := by rw [cell_at h]; rfl
theorem Jr.c5 (h : Jr t w a p J) : w.cell? ⟨a, 5, none⟩ = some (.int .i64 J.side) := by rw [cell_at h]; rfl
theorem Jr.c6 (h : Jr t w a p J) : w.cell? ⟨a, 6, none⟩ = some (.int .u64 J.next) := by rw [cell_at h]; rfl
theorem Jr.c7 (h : Jr t w a p J) : w.cell? ⟨a, 7, none⟩ = some (.int .i64 J.full) := by rw [cell_at h]; rfl
theorem Jr.f (h : Jr t w a p J) (i : Nat) : w.frozen? ⟨a, i, none⟩ = false := free_at h i
theorem Jr.lt (h : Jr t w a p J) : a < w.heap.size := (Array.getElem?_eq_some_iff.1 h).1
theorem Jr.below (h : Jr t w a p J) (hb : Below w.heap.size w w') : Jr t w' a p J := by unfold Jr; rw [hb.block a h.lt]; exact h
theorem Jr.only {S : Nat -> Prop} (h : Jr t w a p J) (ho : Only S w w') (hs : ¬ S a) : Jr t w' a p J := by unfold Jr; rw [ho.block a h.lt hs]; exact h
end

theorem pos_split (p full i log : Nat) (h0 : p < log) (h1 : full + i <= log) :
    (p + full + i < log /\ 2 + (p + full + i) % log = 2 + (p + full + i)) \/ (log <= p + full + i /\ 2 + (p + full + i) % log = 2 + (p + full + i - log)) := by
  by_cases h : p + full + i < log
  . exact .inl ⟨h, by rw [Nat.mod_eq_of_lt h]⟩
  . refine .inr ⟨by omega, ?_⟩
    rw [Nat.mod_eq_sub_mod (by omega), Nat.mod_eq_of_lt (by omega)]
theorem JS.Ok.pos_lt {J : JS} {n : Nat} (h : J.Ok n) (i : Nat) : 2 <= J.pos i /\ J.pos i < 2 + J.log := by
  have := Nat.mod_lt (J.p + J.full + i) (show 0 < J.log by have := h.l0; omega)
  unfold JS.pos; omega

section
variable {w : World} {a p : Nat} {J : JS} {n : Nat}

set_option maxRecDepth 100000 in
set_option maxHeartbeats 400000 in
theorem home_any (h : Jr 104 w a p J) (hl : J.log <= 4096) : Calls Tryz.prog 148 #[.pointer (some ⟨a, 0, none⟩)] w fun e w' => e = .returned (.int .i64 J.home) /\ w = w' := by
  have c := h.c3; clear h
  have e0 : (J.home : Int) = 2 + (J.log : Int) := by unfold JS.home; omega
  rw [e0]; clear e0
  generalize J.log = l at *
  go_enter Tryz.func148, Tryz.ntmps148
  go_wp2
  go_ret
  exact ⟨rfl, rfl⟩

set_option maxRecDepth 100000 in
set_option maxHeartbeats 400000 in
theorem left_drew (h : Jr 104 w a p J) (ok : J.Ok n) (hn : n <= 4096) : Calls Tryz.prog 130 #[.pointer (some ⟨a, 0, none⟩)] w fun e w' => e = .returned (.int .i64 J.left) /\ w' = w.drew := by
  have c := h.c3; have c7 := h.c7; clear h
  have h1 := ok.l1; have h2 := ok.fu
  have e0 : (J.left : Int) = (J.log : Int) - (J.full : Int) := by unfold JS.left; omega
  rw [e0]; clear e0 ok
  generalize J.log = l at *
  generalize J.full = f at *
  have w1 : IntKind.i64.wrap ((l : Int) - (f : Int)) = (l : Int) - (f : Int) := IntWalk.i64_in _ (by omega)
  go_enter Tryz.func130, Tryz.ntmps130
  go_wp2
  go_region
  go_wp2
  go_ret
  exact ⟨rfl, rfl⟩
set_option maxRecDepth 100000 in
set_option maxHeartbeats 400000 in
theorem behind_drew (i : Nat) (h : Jr 104 w a p J) (ok : J.Ok n) (hn : n <= 4096) (hi : J.full + i <= J.log) :
    Calls Tryz.prog 175 #[.pointer (some ⟨a, 0, none⟩), .int .i64 i] w fun e w' => e = .returned (.int .i64 (J.pos i)) /\ w' = w.drew := by
  have c3 := h.c3; have c4 := h.c4; have c7 := h.c7; clear h
  have h1 := ok.l1; have h2 := ok.fu; have h3 := ok.pl
  unfold JS.pos
  have hs := pos_split J.p J.full i J.log h3 hi
  clear ok
  generalize J.log = l at *
  generalize J.full = f at *
  generalize J.p = q at *
  have w1 : IntKind.i64.wrap ((q : Int) + (f : Int)) = (q : Int) + (f : Int) := IntWalk.i64_in _ (by omega)
  have w2 : IntKind.i64.wrap ((q : Int) + (f : Int) + (i : Int)) = (q : Int) + (f : Int) + (i : Int) := IntWalk.i64_in _ (by omega)
  rcases hs with ⟨hlt, e⟩ | ⟨hlt, e⟩
  . have e' : (((2 + (q + f + i) % l : Nat)) : Int) = 2 + ((q : Int) + (f : Int) + (i : Int)) := by rw [e]; omega
    rw [e']
    have hlt' : ¬ (l : Int) <= (q : Int) + (f : Int) + (i : Int) := by omega
    have w3 : IntKind.i64.wrap (2 + ((q : Int) + (f : Int) + (i : Int))) = 2 + ((q : Int) + (f : Int) + (i : Int)) := IntWalk.i64_in _ (by omega)
    clear e e'
    go_enter Tryz.func175, Tryz.ntmps175
    go_wp2
    go_region
    go_wp2
    go_ret
    exact ⟨rfl, rfl⟩
  . have e' : (((2 + (q + f + i) % l : Nat)) : Int) = 2 + ((q : Int) + (f : Int) + (i : Int) - (l : Int)) := by rw [e]; omega
    rw [e']
    have hlt' : (l : Int) <= (q : Int) + (f : Int) + (i : Int) := by omega
    have w3 : IntKind.i64.wrap ((q : Int) + (f : Int) + (i : Int) - (l : Int)) = (q : Int) + (f : Int) + (i : Int) - (l : Int) := IntWalk.i64_in _ (by omega)
    have w4 : IntKind.i64.wrap (2 + ((q : Int) + (f : Int) + (i : Int) - (l : Int))) = 2 + ((q : Int) + (f : Int) + (i : Int) - (l : Int)) := IntWalk.i64_in _ (by omega)
    clear e e'
    go_enter Tryz.func175, Tryz.ntmps175
    go_wp2
    go_region
    go_wp2
    go_ret
    exact ⟨rfl, rfl⟩
theorem behind_any (i : Nat) (h : Jr 104 w a p J) (ok : J.Ok n) (hn : n <= 4096) (hi : J.full + i <= J.log) :
    Calls Tryz.prog 175 #[.pointer (some ⟨a, 0, none⟩), .int .i64 i] w fun e w' => e = .returned (.int .i64 (J.pos i)) /\ Below w.heap.size w w' :=
  (behind_drew i h ok hn hi).mono fun e w' ⟨he, hw⟩ => by subst hw; exact ⟨he, (Below.refl _ _).drew⟩

theorem Jr.put {t : TypeId} {J' : JS} {i : Nat} {v : Value} (h : Jr t w a p J) (hc : (JCells p J).setIfInBounds i v = JCells p J') : Jr t (w.setCell ⟨a, i, none⟩ v) a p J' := by
  unfold Jr; rw [heap_setCell_at h, hc]

set_option maxRecDepth 100000 in
set_option maxHeartbeats 400000 in
theorem grow_any (m : Nat) (h : Jr 104 w a p J) (ok : J.Ok n) (hn : n <= 4096) (hm : m <= 5000) :
    Calls Tryz.prog 174 #[.pointer (some ⟨a, 0, none⟩), .int .i64 m] w fun e w' => e = .returned (.tuple #[]) /\ Jr 104 w' a p (J.grow m) /\ Only (fun k => k = a) w w' /\ w'.heap.size = w.heap.size := by
  have c6 := h.c6; have f6 := h.f 6; have c7 := h.c7; have f7 := h.f 7
  have h1 := ok.l1; have h2 := ok.fu
  obtain ⟨x, hx⟩ : ∃ x : Nat, x = (J.next + 1) % 18446744073709551616 := ⟨_, rfl⟩
  have wn : IntKind.u64.wrap ((J.next : Int) + 1) = (x : Int) := by rw [hx]; simp [IntKind.wrap, IntKind.bits, IntKind.signed]
  have hj : Hid (Jr 104 ((w.setCell ⟨a, 6, none⟩ (.int .u64 x)).setCell ⟨a, 7, none⟩ (.int .i64 ((J.full : Int) + (m : Int)))) a p (J.grow m)) := by
    have h1 := h.put (J' := { J with next := x }) (i := 6) (v := .int .u64 x) rfl
    exact h1.put (by unfold JS.grow; rw [<- hx]; simp [JCells])
  have HX := Lib.hid hx; clear hx
  have wf : IntKind.i64.wrap ((J.full : Int) + (m : Int)) = (J.full : Int) + (m : Int) := IntWalk.i64_in _ (by omega)
  clear ok h
  generalize J.next = nx at *
  generalize J.full = fu at *
  go_enter Tryz.func174, Tryz.ntmps174
  go_wp2
  go_end0
  exact ⟨rfl, hj.out, ((Only.refl (fun k => k = a) w).setCell (p := ⟨a, 6, none⟩) (fun _ => rfl) _).setCell (p := ⟨a, 7, none⟩) (fun _ => rfl) _, by simp [World.setCell]⟩

set_option maxRecDepth 100000 in
set_option maxHeartbeats 400000 in
theorem fits_any (log : Int) (b : Nat) (hb : b <= 4096) : Calls Tryz.prog 120 #[.int .i64 log, .int .i64 b] w fun e w' => e = .returned (.bool (decide (50 <= log /\ log <= (b : Int) - 3))) /\ w = w' := by
  by_cases h : 50 <= log
  . by_cases h2 : log <= (b : Int) - 3
    . have e : decide (50 <= log /\ log <= (b : Int) - 3) = true := by simp [h, h2]
      rw [e]
      have w1 : IntKind.i64.wrap ((b : Int) - 2) = (b : Int) - 2 := IntWalk.i64_in _ (by omega)
      have w2 : IntKind.i64.wrap ((b : Int) - 2 - 1) = (b : Int) - 2 - 1 := IntWalk.i64_in _ (by omega)
      have h3 : log <= (b : Int) - 2 - 1 := by omega
      clear e h2
      go_enter Tryz.func120, Tryz.ntmps120
      go_wp2
      go_ret
      exact ⟨rfl, rfl⟩
    . have e : decide (50 <= log /\ log <= (b : Int) - 3) = false := by simp; omega
      rw [e]
      have w1 : IntKind.i64.wrap ((b : Int) - 2) = (b : Int) - 2 := IntWalk.i64_in _ (by omega)
      have w2 : IntKind.i64.wrap ((b : Int) - 2 - 1) = (b : Int) - 2 - 1 := IntWalk.i64_in _ (by omega)
      have h3 : ¬ log <= (b : Int) - 2 - 1 := by omega
      clear e h2
      go_enter Tryz.func120, Tryz.ntmps120
      go_wp2
      go_ret
      exact ⟨rfl, rfl⟩
  . have e : decide (50 <= log /\ log <= (b : Int) - 3) = false := by simp; omega
    rw [e]
    clear e
    go_enter Tryz.func120, Tryz.ntmps120
    go_wp2
    go_ret
    exact ⟨rfl, rfl⟩
end
end Go.Proofs.YthambopnmhkeeaaGreat
/- What check answers: why writes cannot be committed. -/
namespace Go.Proofs.YthambopnmhkeeaaGreat
open Go.RowKit
open Fr (SlW WritesAt)

section
variable {S : Nat -> Prop} {w w' : World} {a p : Nat} {J : JS} {D : DevS} {v : Value} {L : List (Int × ByteArray)}

set_option maxRecDepth 100000 in
set_option maxHeartbeats 1000000 in
theorem jcheck_many (ao : Option Addr) (n c : Nat) (w : World) (h : n = 0 \/ 48 < n) (hm : n <= 1000) :
    Calls Tryz.prog 128 #[.pointer (some ⟨a, 0, none⟩), .slice ao n c] w fun e w' => e = .returned (.int .i64 6) /\ Below w.heap.size w w' := by
  rcases h with rfl | h
  . go_enter Tryz.func128, Tryz.ntmps128
    go_wp2
    go_ret
    exact ⟨rfl, Below.refl _ _⟩
  . have h0 : ((n : Int) == 0) = false := beq_eq_false_iff_ne.2 (by omega)
    have h1 : (48 : Int) < (n : Int) := by omega
    go_enter Tryz.func128, Tryz.ntmps128
    go_wp2
    go_ret
    exact ⟨rfl, Below.refl _ _⟩

set_option maxRecDepth 100000 in
set_option maxHeartbeats 1000000 in
theorem jcheck_some (b off c : Nat) (hj : Jr 104 w a p J) (hd : Stands S w p D) (ok : J.Ok D.disk.length) (h1 : 1 <= L.length) (h2 : L.length <= 48) (hs : ∀ x ∈ L, x.2.size <= maxLen) (hb : b < w.heap.size) (hc : WritesAt w b off L) :
    Calls Tryz.prog 128 #[.pointer (some ⟨a, 0, none⟩), .slice (some ⟨b, off, none⟩) L.length c] w fun e w' => e = .returned (.int .i64 ((J.chkL D.disk.length L : Nat) : Int)) /\ Below w.heap.size w w' := by
  have HC := Lib.hid hc; clear hc
  have HS := Lib.hid hs; clear hs
  have hnd := hd.ok.few
  have hlog : J.log <= 4096 := by have := ok.l1; omega
  have CH : Hid (∀ W, Below w.heap.size w W -> Calls Tryz.prog 148 #[.pointer (some ⟨a, 0, none⟩)] W fun e w' => e = .returned (.int .i64 J.home) /\ W = w') := fun W hW => home_any (hj.below hW) hlog
  have CB : Hid (∀ W, Below w.heap.size w W -> Calls Tryz.prog 58 #[.pointer (some ⟨p, 0, none⟩)] W fun e w' => e = .returned (.int .i64 D.disk.length) /\ W = w') := fun W hW => blocks_any (hd.below hW)
  have HJ := Lib.hid hj; clear hj
  clear hd ok
  obtain ⟨nd, hnd'⟩ : ∃ n, D.disk.length = n := ⟨_, rfl⟩
  rw [hnd'] at CB hnd ⊢
  clear hnd'
  obtain ⟨n, hn⟩ : ∃ n, L.length = n := ⟨_, rfl⟩
  rw [hn] at h1 h2 ⊢
  have HN := Lib.hid hn; clear hn
  have h0 : ((n : Int) == 0) = false := beq_eq_false_iff_ne.2 (by omega)
  have h3 : ¬ (48 : Int) < (n : Int) := by omega
  have hho : J.home <= 4100 := by unfold JS.home; omega
  go_enter Tryz.func128, Tryz.ntmps128
  go_wp2
  go_loopw [17] (fun i wr => ∃ k : Nat, k <= n /\ i = .int .i64 k /\ Hid (J.chkL nd L = J.chkL nd (L.drop k)) /\ Hid (Below w.heap.size w wr)) (fun i _ => n - (intOf i).toNat)
  case atStart => exact ⟨0, Nat.zero_le _, rfl, rfl, Below.refl _ _⟩
  case round =>
    obtain ⟨k, hk, rfl, HK, HB⟩ := hrel
    have hbr := HB.out.size
    by_cases hlt : k < n
    . have hkL : k < L.length := by rw [HN.out]; exact hlt
      obtain ⟨c0, c1⟩ := (HC.out.below HB.out hb) k hkL
      have hsz := HS.out L[k] (List.getElem_mem hkL)
      unfold maxLen at hsz
      have ca := (HJ.out.below HB.out).c0
      have hal := (HJ.out.below HB.out).lt
      obtain ⟨X, hX⟩ : ∃ X, wr.alloc (.cells #[.int .i64 L[k].1, .string L[k].2] 63) = X := ⟨_, rfl⟩
      have hXb : Below wr.heap.size wr X := by rw [<- hX]; exact (Below.refl _ _).alloc (Nat.le_refl _) _
      have hXh : X.heap[wr.heap.size]? = some (.cells #[.int .i64 L[k].1, .string L[k].2] 63 (0, 0)) := by rw [<- hX, heap_alloc_new]
      have x0 : X.cell? ⟨wr.heap.size, 0, none⟩ = some (.int .i64 L[k].1) := by rw [cell_at hXh]; rfl
      have x1 : X.cell? ⟨wr.heap.size, 1, none⟩ = some (.string L[k].2) := by rw [cell_at hXh]; rfl
      have xa : X.cell? ⟨a, 0, none⟩ = some (.pointer (some ⟨p, 0, none⟩)) := (hXb.cell (p := ⟨a, 0, none⟩) hal).trans ca
      have HXW : Hid (Below w.heap.size w X) := HB.out.trans (hXb.mono hbr)
      have HX := Lib.hid hX; clear hX hXb hXh ca
      by_cases hx : J.chk1 nd L[k] = 0
      . obtain ⟨g0, g1, g2⟩ := (J.chk1_ok nd _).1 hx
        have HK2 : Hid (J.chkL nd L = J.chkL nd (L.drop (k + 1))) := by show _ = _; rw [HK.out, J.chkL_drop nd L k hkL hx]
        clear hx
        generalize L[k] = x at *
        obtain ⟨xb, xd⟩ := x
        simp only at c0 c1 x0 x1 g0 g1 g2 hsz HX
        have hne : ((xd.size : Int) != 256) = false := by simp; omega
        have d1 : decide (xb < (J.home : Int)) = false := decide_eq_false (by omega)
        have d2 : decide ((nd : Int) <= xb) = false := decide_eq_false (by omega)
        have d1' : ¬ xb < (J.home : Int) := by omega
        have d2' : ¬ (nd : Int) <= xb := by omega
        generalize J.home = ho at *
        go_wp2_with fail
        rw [HX.out]
        go_region_held3 (fun W => W.cell? ⟨a, 0, none⟩ = some (.pointer (some ⟨p, 0, none⟩)) /\ W.cell? ⟨wr.heap.size, 0, none⟩ = some (.int .i64 xb))
          (first | exact ⟨xa, x0⟩ | assumption)
          (first | (go_at_call 148; refine (CH.out _ ?_).mono ?_; exact HXW.out.drew; rintro e w' ⟨rfl, rfl⟩) | (go_at_call 58; refine (CB.out _ ?_).mono ?_; exact HXW.out.drew; rintro e w' ⟨rfl, rfl⟩))
        go_wp2
        go_roundw
        case rel => exact ⟨k + 1, by omega, by go_num, HK2, HXW.out.drew⟩
        case measure => simp [intOf]; omega
      . have HE := Lib.hid (show J.chkL nd L = J.chk1 nd L[k] by rw [HK.out, J.chkL_at nd L k hkL hx])
        generalize L[k] = x at *
        obtain ⟨xb, xd⟩ := x
        simp only at c0 c1 x0 x1 hsz HX
        unfold JS.chk1 at hx HE
        simp only at hx HE
        by_cases hr : xb < (J.home : Int) \/ (nd : Int) <= xb
        . rw [if_pos hr] at HE
          clear hx
          generalize J.home = ho at *
          by_cases hr1 : xb < (ho : Int)
          . have d1 : decide (xb < (ho : Int)) = true := decide_eq_true hr1
            clear hr
            go_wp2_with fail
            rw [HX.out]
            go_quiet ((go_at_call 148; refine Calls.quiet_of_same (((CH.out _ ?_).mono (fun e w' h => ⟨h.1, h.2.symm⟩)));  exact ⟨HXW.out.os, HXW.out.tape, HXW.out.output, HXW.out.size, HXW.out.block⟩))
            go_wp2
            go_ret
            exact ⟨by rw [HE.out]; rfl, Fr.below_drewN HXW.out _⟩
          . have hr2 : (nd : Int) <= xb := by omega
            have d1 : decide (xb < (ho : Int)) = false := decide_eq_false hr1
            have d2 : decide ((nd : Int) <= xb) = true := decide_eq_true hr2
            clear hr
            go_wp2_with fail
            rw [HX.out]
            go_region_held3 (fun W => W.cell? ⟨a, 0, none⟩ = some (.pointer (some ⟨p, 0, none⟩)) /\ W.cell? ⟨wr.heap.size, 0, none⟩ = some (.int .i64 xb))
              (first | exact ⟨xa, x0⟩ | assumption)
              (first | (go_at_call 148; refine (CH.out _ ?_).mono ?_; exact HXW.out.drew; rintro e w' ⟨rfl, rfl⟩) | (go_at_call 58; refine (CB.out _ ?_).mono ?_; exact HXW.out.drew; rintro e w' ⟨rfl, rfl⟩))
            go_wp2
            go_ret
            exact ⟨by rw [HE.out]; rfl, HXW.out.drew⟩
        . rw [if_neg hr] at hx HE
          have d1 : decide (xb < (J.home : Int)) = false := decide_eq_false (by omega)
          have d2 : decide ((nd : Int) <= xb) = false := decide_eq_false (by omega)
          have d1' : ¬ xb < (J.home : Int) := by omega
          have d2' : ¬ (nd : Int) <= xb := by omega
          clear hr
          by_cases hz : xd.size ≠ 256
          . rw [if_pos hz] at HE
            clear hx
            have hne : ((xd.size : Int) != 256) = true := by simp; omega
            clear hz
            generalize J.home = ho at *
            go_wp2_with fail
            rw [HX.out]
            go_region_held3 (fun W => W.cell? ⟨a, 0, none⟩ = some (.pointer (some ⟨p, 0, none⟩)) /\ W.cell? ⟨wr.heap.size, 0, none⟩ = some (.int .i64 xb))
              (first | exact ⟨xa, x0⟩ | assumption)
              (first | (go_at_call 148; refine (CH.out _ ?_).mono ?_; exact HXW.out.drew; rintro e w' ⟨rfl, rfl⟩) | (go_at_call 58; refine (CB.out _ ?_).mono ?_; exact HXW.out.drew; rintro e w' ⟨rfl, rfl⟩))
            go_wp2
            go_ret
            exact ⟨by rw [HE.out]; rfl, HXW.out.drew⟩
          . rw [if_neg hz] at hx; exact absurd rfl hx
    . have hkn : k = n := by omega
      subst hkn
      have HE : Hid (J.chkL nd L = 0) := by show _ = _; rw [HK.out, List.drop_of_length_le (by rw [HN.out]; exact Nat.le_refl _)]; rfl
      go_wp2
      go_ret
      exact ⟨by rw [HE.out]; rfl, HB.out⟩

theorem jcheck_any (hj : Jr 104 w a p J) (hd : Stands S w p D) (ok : J.Ok D.disk.length) (hl : L.length <= 1000) (hs : ∀ x ∈ L, x.2.size <= maxLen) (h : SlW w v L) :
    Calls Tryz.prog 128 #[.pointer (some ⟨a, 0, none⟩), v] w fun e w' => e = .returned (.int .i64 ((J.chk D.disk.length L : Nat) : Int)) /\ Below w.heap.size w w' := by
  unfold JS.chk
  by_cases h0 : L.length = 0 \/ 48 < L.length
  . rw [if_pos h0]
    obtain ⟨ao, c, rfl, _⟩ := h
    exact jcheck_many ao _ c w h0 hl
  . rw [if_neg h0]
    obtain ⟨b, off, c, rfl, _, hb, hc⟩ := h.here (by omega)
    exact jcheck_some b off c hj hd ok (by omega) (by omega) hs hb hc
end
end Go.Proofs.YthambopnmhkeeaaGreat
/- What writeAll and settle answer and leave behind, for every journal over every device. -/
namespace Go.Proofs.YthambopnmhkeeaaGreat
open Go.RowKit
open Fr (SlW WritesAt)

section
variable {S S1 T : Nat -> Prop} {w w1 w2 w' : World} {a p : Nat} {J : JS} {D D1 D2 : DevS} {v : Value} {L : List (Int × ByteArray)}

def Outs (S : Nat -> Prop) (v : Value) : Prop := ∀ g off n c, v = .slice (some ⟨g, off, none⟩) n c -> ¬ S g
theorem Outs.mono (h : Outs S v) (hs : ∀ k, T k -> S k) : Outs T v := fun g off n c hv ht => h g off n c hv (hs g ht)
theorem SlW.only (h : SlW w v L) (ho : Only T w w') (hT : Outs T v) : SlW w' v L := by
  obtain ⟨ao, c, hv, hc, h⟩ := h
  refine ⟨ao, c, hv, hc, ?_⟩
  rcases h with h | ⟨b, off, e, hlt, h⟩
  . exact .inl h
  . subst e
    have hnt := hT b off _ _ hv
    refine .inr ⟨b, off, rfl, Nat.lt_of_lt_of_le hlt ho.size, fun j hj => ⟨?_, ?_⟩⟩
    . rw [ho.cell (p := ⟨b, off + j * 2, none⟩) hlt hnt]; exact (h j hj).1
    . rw [ho.cell (p := ⟨b, off + j * 2 + 1, none⟩) hlt hnt]; exact (h j hj).2
theorem Leaves.next (hS1 : ∀ k, S1 k -> S k \/ w.heap.size <= k) (ho : Only S w w1) (h : Leaves S1 w1 w2 p D2) : Leaves S w w2 p D2 := by
  obtain ⟨S2, hS2, hs, ho2⟩ := h
  refine ⟨S2, fun k hk => ?_, hs, ho.trans ho2 (fun i hi h1 => ?_)⟩
  . rcases hS2 k hk with h | h
    . exact hS1 k h
    . exact .inr (Nat.le_trans ho.size h)
  . rcases hS1 i h1 with h | h
    . exact h
    . omega
theorem Leaves.below (h : Leaves S w w1 p D1) (hb : Below w1.heap.size w1 w2) : Leaves S w w2 p D1 := by
  obtain ⟨S2, hS2, hs, ho2⟩ := h
  exact ⟨S2, hS2, hs.below hb, ho2.trans (Only.of_below (fun _ => False) hb (Nat.le_refl _)) (fun _ _ f => f.elim)⟩
theorem Leaves.from (hb : Below w.heap.size w w1) (h : Leaves S w1 w2 p D2) : Leaves S w w2 p D2 :=
  Leaves.next (fun _ h => .inl h) (Only.of_below S hb (Nat.le_refl _)) h
theorem Leaves.only (h : Leaves S w w1 p D1) : Only S w w1 := by obtain ⟨_, _, _, h⟩ := h; exact h
theorem Leaves.ok (h : Leaves S w w1 p D1) : D1.Ok := by obtain ⟨_, _, h, _⟩ := h; exact h.ok

theorem wrs_stop (D : DevS) (L : List (Int × ByteArray)) (k : Nat) (h : k < L.length) (h0 : (D.wrs (L.take k)).1 = 0) (he : ((D.wrs (L.take k)).2.wr L[k].1 L[k].2).1 ≠ 0) : D.wrs L = (D.wrs (L.take k)).2.wr L[k].1 L[k].2 := by
  have e1 : D.wrs (L.take (k + 1)) = (D.wrs (L.take k)).2.wr L[k].1 L[k].2 := by rw [take_snocL L k h, D.wrs_snoc _ _ h0]
  conv => lhs; rw [<- List.take_append_drop (k + 1) L]
  rw [D.wrs_err _ _ (by rw [e1]; exact he), e1]
theorem wrs_goes (D : DevS) (L : List (Int × ByteArray)) (k : Nat) (h : k < L.length) (h0 : (D.wrs (L.take k)).1 = 0) (he : ((D.wrs (L.take k)).2.wr L[k].1 L[k].2).1 = 0) : (D.wrs (L.take (k + 1))).1 = 0 /\ (D.wrs (L.take (k + 1))).2 = ((D.wrs (L.take k)).2.wr L[k].1 L[k].2).2 := by
  have e1 : D.wrs (L.take (k + 1)) = (D.wrs (L.take k)).2.wr L[k].1 L[k].2 := by rw [take_snocL L k h, D.wrs_snoc _ _ h0]
  rw [e1]; exact ⟨he, rfl⟩

set_option maxRecDepth 100000 in
set_option maxHeartbeats 1000000 in
theorem writeAll_some (b off c : Nat) (hj : Jr 104 w a p J) (hd : Stands S w p D) (ha : ¬ S a) (hl : L.length <= 10000) (hp : D.pend.length <= 900000) (hb : b < w.heap.size) (hc : WritesAt w b off L) (hs : ¬ S b) :
    Calls Tryz.prog 132 #[.pointer (some ⟨a, 0, none⟩), .slice (some ⟨b, off, none⟩) L.length c] w fun e w' => e = .returned (.int .i64 (D.wrs L).1) /\ Leaves S w w' p (D.wrs L).2 := by
  have HC := Lib.hid hc; clear hc
  have HJ := Lib.hid hj; clear hj
  have HS := Lib.hid hs; clear hs
  have HA := Lib.hid ha; clear ha
  obtain ⟨n, hn⟩ : ∃ n, L.length = n := ⟨_, rfl⟩
  rw [hn] at hl ⊢
  have HN := Lib.hid hn; clear hn
  have HD := Lib.hid hd; clear hd
  go_enter Tryz.func132, Tryz.ntmps132
  go_wp2
  go_loopw [10] (fun i wr => ∃ k : Nat, k <= n /\ i = .int .i64 k /\ Hid ((D.wrs (L.take k)).1 = 0) /\ Hid (Leaves S w wr p (D.wrs (L.take k)).2)) (fun i _ => n - (intOf i).toNat)
  case atStart => exact ⟨0, Nat.zero_le _, rfl, rfl, .mk HD.out (Only.refl _ _)⟩
  case round =>
    obtain ⟨k, hk, rfl, HK, HL⟩ := hrel
    by_cases hlt : k < n
    . have hkL : k < L.length := by rw [HN.out]; exact hlt
      have HO := HL.out.only
      have hbr := HO.size
      obtain ⟨S1, hS1, hs1, ho1⟩ := HL.out
      have hn1 : ∀ g, g < w.heap.size -> ¬ S g -> ¬ S1 g := fun g hg hs h => by rcases hS1 g h with h | h; exact hs h; omega
      have haw := HJ.out.lt
      have c0 : wr.cell? ⟨a, 0, none⟩ = some (.pointer (some ⟨p, 0, none⟩)) := (HO.cell (p := ⟨a, 0, none⟩) haw HA.out).trans HJ.out.c0
      obtain ⟨e0, e1⟩ := HC.out k hkL
      have d0 : wr.cell? ⟨b, off + k * 2, none⟩ = some (.int .i64 L[k].1) := (HO.cell (p := ⟨b, off + k * 2, none⟩) hb HS.out).trans e0
      have d1 : wr.cell? ⟨b, off + k * 2 + 1, none⟩ = some (.string L[k].2) := (HO.cell (p := ⟨b, off + k * 2 + 1, none⟩) hb HS.out).trans e1
      have hbb : b < wr.heap.size := Nat.lt_of_lt_of_le hb hbr
      obtain ⟨X, hX⟩ : ∃ X, wr.alloc (.cells #[.int .i64 L[k].1, .string L[k].2] 63) = X := ⟨_, rfl⟩
      have hXb : Below wr.heap.size wr X := by rw [<- hX]; exact (Below.refl _ _).alloc (Nat.le_refl _) _
      have hXz : X.heap.size = wr.heap.size + 1 := by rw [<- hX]; simp
      have hXh : X.heap[wr.heap.size]? = some (.cells #[.int .i64 L[k].1, .string L[k].2] 63 (0, 0)) := by rw [<- hX, heap_alloc_new]
      have x0 : X.cell? ⟨wr.heap.size, 0, none⟩ = some (.int .i64 L[k].1) := by rw [cell_at hXh]; rfl
      have x1 : X.cell? ⟨wr.heap.size, 1, none⟩ = some (.string L[k].2) := by rw [cell_at hXh]; rfl
      have xa : X.cell? ⟨a, 0, none⟩ = some (.pointer (some ⟨p, 0, none⟩)) := (hXb.cell (p := ⟨a, 0, none⟩) (Nat.lt_of_lt_of_le haw hbr)).trans c0
      have hsX : Stands S1 X p (D.wrs (L.take k)).2 := hs1.below hXb
      have hpl : (D.wrs (L.take k)).2.pend.length <= 1000000 := by have := D.wrs_len (L.take k); rw [List.length_take] at this; omega
      have HW : Hid (∀ W, Below X.heap.size X W -> Calls Tryz.prog 28 #[.pointer (some ⟨p, 0, none⟩), .int .i64 L[k].1, .string L[k].2] W fun e w' => e = .returned (.int .i64 ((D.wrs (L.take k)).2.wr L[k].1 L[k].2).1) /\ Leaves S1 X w' p ((D.wrs (L.take k)).2.wr L[k].1 L[k].2).2) := by
        intro W hW
        exact (write_any L[k].1 L[k].2 hpl (hsX.below hW)).mono fun e w' ⟨he, hv⟩ => ⟨he, Leaves.from hW hv⟩
      have HKeep : Hid (∀ w' D', Leaves S1 X w' p D' -> w'.cell? ⟨a, 0, none⟩ = some (.pointer (some ⟨p, 0, none⟩)) /\ w'.cell? ⟨wr.heap.size, 0, none⟩ = some (.int .i64 L[k].1) /\ w'.cell? ⟨wr.heap.size, 1, none⟩ = some (.string L[k].2)) := by
        intro w' D' h
        have h1 := h.only
        have na : ¬ S1 a := hn1 a haw HA.out
        have nx : ¬ S1 wr.heap.size := fun h => by have := hs1.lt _ h; omega
        exact ⟨(h1.cell (p := ⟨a, 0, none⟩) (by rw [hXz]; show a < _; omega) na).trans xa, (h1.cell (p := ⟨wr.heap.size, 0, none⟩) (by rw [hXz]; exact Nat.lt_succ_self _) nx).trans x0, (h1.cell (p := ⟨wr.heap.size, 1, none⟩) (by rw [hXz]; exact Nat.lt_succ_self _) nx).trans x1⟩
      have HLv : Hid (∀ w' D', Leaves S1 X w' p D' -> Leaves S w w' p D') := fun w' D' h => Leaves.next hS1 ho1 (Leaves.from hXb h)
      have HSt := Lib.hid (wrs_stop D L k hkL HK.out)
      have HGo := Lib.hid (wrs_goes D L k hkL HK.out)
      clear hs1 ho1 hn1 HO e0 e1 c0 hXh hsX hpl hXb hXz haw
      have HX := Lib.hid hX; clear hX
      generalize (D.wrs (L.take k)).2.wr L[k].1 L[k].2 = R at *
      generalize L[k] = x at *
      obtain ⟨xb, xd⟩ := x
      obtain ⟨er, DR⟩ := R
      simp only at d0 d1 HX x0 x1 HW HKeep HSt HGo
      by_cases he : er = 0
      . have he' : (er != 0) = false := by simp [he]
        obtain ⟨g0, g1⟩ := HGo.out he
        have HG0 := Lib.hid g0; have HG1 := Lib.hid g1; clear g0 g1
        go_wp2_with fail
        rw [HX.out]
        go_region_held3 (fun W => W.cell? ⟨a, 0, none⟩ = some (.pointer (some ⟨p, 0, none⟩)) /\ W.cell? ⟨wr.heap.size, 0, none⟩ = some (.int .i64 xb) /\ W.cell? ⟨wr.heap.size, 1, none⟩ = some (.string xd))
          (first | exact ⟨xa, x0, x1⟩ | exact HKeep.out _ _ (by assumption))
          (first | (go_at_call 28; refine (HW.out _ ((Below.refl _ _).drew)).mono ?_; rintro e w' ⟨rfl, hlv⟩))
        have HF := Lib.hid (HLv.out _ _ hlv)
        clear hlv
        go_wp2
        go_roundw
        case rel => exact ⟨k + 1, by omega, by go_num, HG0, by rw [HG1.out]; exact HF.out⟩
        case measure => simp [intOf]; omega
      . have he' : (er != 0) = true := by simp [he]
        have HR := Lib.hid (HSt.out he)
        go_wp2_with fail
        rw [HX.out]
        go_region_held3 (fun W => W.cell? ⟨a, 0, none⟩ = some (.pointer (some ⟨p, 0, none⟩)) /\ W.cell? ⟨wr.heap.size, 0, none⟩ = some (.int .i64 xb) /\ W.cell? ⟨wr.heap.size, 1, none⟩ = some (.string xd))
          (first | exact ⟨xa, x0, x1⟩ | exact HKeep.out _ _ (by assumption))
          (first | (go_at_call 28; refine (HW.out _ ((Below.refl _ _).drew)).mono ?_; rintro e w' ⟨rfl, hlv⟩))
        have HF := Lib.hid (HLv.out _ _ hlv)
        clear hlv
        go_wp2
        go_ret
        exact ⟨by rw [HR.out]; rfl, by rw [HR.out]; exact HF.out⟩
    . have hkn : k = n := by omega
      subst hkn
      have e : L.take k = L := List.take_of_length_le (by rw [HN.out]; exact Nat.le_refl _)
      have HE : Hid ((D.wrs L).1 = 0) := by show _ = _; rw [<- e]; exact HK.out
      have HF : Hid (Leaves S w wr p (D.wrs L).2) := by have := HL.out; rw [e] at this; exact this
      clear e
      go_wp2
      go_ret
      exact ⟨by rw [HE.out]; rfl, HF.out⟩

set_option maxRecDepth 100000 in
set_option maxHeartbeats 400000 in
theorem writeAll_none (ao : Option Addr) (c : Nat) :
    Calls Tryz.prog 132 #[.pointer (some ⟨a, 0, none⟩), .slice ao 0 c] w fun e w' => e = .returned (.int .i64 0) /\ w = w' := by
  go_enter Tryz.func132, Tryz.ntmps132
  go_wp2
  go_loopw [10] (fun i wr => i = .int .i64 0 /\ wr = w) (fun _ _ => 0)
  case atStart => exact ⟨rfl, rfl⟩
  case round =>
    obtain ⟨rfl, rfl⟩ := hrel
    go_wp2
    go_ret
    exact ⟨rfl, rfl⟩

theorem writeAll_any (hj : Jr 104 w a p J) (hd : Stands S w p D) (ha : ¬ S a) (hl : L.length <= 10000) (hp : D.pend.length <= 900000) (h : SlW w v L) (hs : Outs S v) :
    Calls Tryz.prog 132 #[.pointer (some ⟨a, 0, none⟩), v] w fun e w' => e = .returned (.int .i64 (D.wrs L).1) /\ Leaves S w w' p (D.wrs L).2 := by
  by_cases h0 : L = []
  . obtain ⟨ao, c, rfl, _⟩ := h
    subst h0
    exact (writeAll_none ao c).mono fun e w' ⟨he, hw⟩ => by subst hw; exact ⟨he, .mk hd (Only.refl _ _)⟩
  . obtain ⟨b, off, c, rfl, _, hb, hc⟩ := h.here (List.length_pos_iff.2 h0)
    exact writeAll_some b off c hj hd ha hl hp hb hc (hs b off _ _ rfl)

set_option maxRecDepth 100000 in
set_option maxHeartbeats 1000000 in
theorem jsettle_any (hj : Jr 104 w a p J) (hd : Stands S w p D) (ha : ¬ S a) (hl : L.length <= 10000) (hp : D.pend.length <= 900000) (h : SlW w v L) (hs : Outs S v) :
    Calls Tryz.prog 122 #[.pointer (some ⟨a, 0, none⟩), v] w fun e w' => e = .returned (.int .i64 (D.stl L).1) /\ Leaves S w w' p (D.stl L).2 := by
  have HW := Lib.hid (writeAll_any hj hd ha hl hp h hs)
  have hpl : (D.wrs L).2.pend.length <= 1000000 := by have := D.wrs_len L; omega
  have HP := Lib.hid hpl; clear hpl
  have HJ := Lib.hid hj; clear hj
  have HA := Lib.hid ha; clear ha
  obtain ⟨ao, c, rfl, _⟩ := h
  have HE : Hid (D.stl L = if (D.wrs L).1 ≠ 0 then D.wrs L else (D.wrs L).2.fl) := rfl
  generalize L.length = n at *
  clear hd hs hl hp
  generalize D.stl L = Z at *
  generalize D.wrs L = R at *
  obtain ⟨er, DR⟩ := R
  simp only at HW HP HE
  by_cases he : er = 0
  . have he' : (er != 0) = false := by simp [he]
    rw [if_neg (by simpa using he)] at HE
    go_enter Tryz.func122, Tryz.ntmps122
    go_wp2_with fail
    refine HW.out.mono ?_
    rintro e w1 ⟨rfl, hv⟩
    have c0 : w1.cell? ⟨a, 0, none⟩ = some (.pointer (some ⟨p, 0, none⟩)) := (hv.only.cell (p := ⟨a, 0, none⟩) HJ.out.lt HA.out).trans HJ.out.c0
    obtain ⟨S1, hS1, hs1, ho1⟩ := hv
    have HF : Hid (Calls Tryz.prog 170 #[.pointer (some ⟨p, 0, none⟩)] w1 fun e w' => e = .returned (.int .i64 DR.fl.1) /\ Leaves S w w' p DR.fl.2) :=
      (flush_any HP.out hs1).mono fun e w' ⟨he, h1, h2⟩ => ⟨he, Leaves.next hS1 ho1 (.mk h1 h2)⟩
    clear hS1 hs1 ho1
    go_wp2_with fail
    refine HF.out.mono ?_
    rintro e w2 ⟨rfl, hv⟩
    have HV := Lib.hid hv; clear hv
    go_wp2
    go_ret
    exact ⟨by rw [HE.out]; rfl, by rw [HE.out]; exact HV.out⟩
  . have he' : (er != 0) = true := by simp [he]
    rw [if_pos (by simpa using he)] at HE
    go_enter Tryz.func122, Tryz.ntmps122
    go_wp2_with fail
    refine HW.out.mono ?_
    rintro e w1 ⟨rfl, hv⟩
    have HV := Lib.hid hv; clear hv
    go_wp2
    go_ret
    exact ⟨by rw [HE.out]; rfl, by rw [HE.out]; exact HV.out⟩
end
end Go.Proofs.YthambopnmhkeeaaGreat
/- A frame in which one byte is another one, but for the number of writes, is not unpacked: in plain lists. -/
namespace Go.Proofs.YthambopnmhkeeaaGreat.Fr
open Go.RowKit

theorem unp_ok {s : ByteArray} {D : List ByteArray} (h : (unp (s :: D)).2.2 = 0) : formB s D = true /\ sumB s D = true := by
  rw [unp_cons] at h
  by_cases hf : formB s D = true
  . rw [if_pos hf] at h
    by_cases hs : sumB s D = true
    . exact ⟨hf, hs⟩
    . rw [if_neg hs] at h; cases h
  . rw [if_neg hf] at h; cases h
theorem parts (l : List UInt8) (i : Nat) (h : i < l.length) : l = l.take i ++ l[i] :: l.drop (i + 1) := by
  rw [<- List.drop_eq_getElem_cons h, List.take_append_drop]
theorem getD_at (l : List UInt8) (m : Nat) (h : m < l.length) : l.getD m 0 = l[m] := by simp [List.getD, h]

end Go.Proofs.YthambopnmhkeeaaGreat.Fr
