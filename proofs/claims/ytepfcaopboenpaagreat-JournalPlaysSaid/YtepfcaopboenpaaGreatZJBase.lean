/- A journal in memory, and what its smallest calls answer: Seq, Home, Used, left, behind, grow, fits, noughts. -/
import Derived.Test.YtepfcaopboenpaaGreatZJMath
import Derived.Test.YtepfcaopboenpaaGreatZFBase
import Derived.Deep.RegionHeld3
import Derived.Deep.RegionWith

namespace Go.Proofs.YtepfcaopboenpaaGreat
open Go.RowKit
open Fr (bs fixL nmAt)

def JCells (p : Nat) (J : JS) : Array Value := #[.pointer (some ⟨p, 0, none⟩), .int .u64 J.e, .int .u64 J.s, .int .i64 J.log, .int .i64 J.p, .int .i64 J.side, .int .u64 J.next, .int .i64 J.full]
/-- Block a is a journal (of type t) over the device p, and says J. -/
def Jr (t : TypeId) (w : World) (a p : Nat) (J : JS) : Prop := w.heap[a]? = some (.cells (JCells p J) t (0, 0))
section
variable {t : TypeId} {w w' : World} {a p : Nat} {J : JS}
theorem Jr.c0 (h : Jr t w a p J) : w.cell? ⟨a, 0, none⟩ = some (.pointer (some ⟨p, 0, none⟩)) := by rw [cell_at h]; rfl
theorem Jr.c1 (h : Jr t w a p J) : w.cell? ⟨a, 1, none⟩ = some (.int .u64 J.e) := by rw [cell_at h]; rfl
theorem Jr.c2 (h : Jr t w a p J) : w.cell? ⟨a, 2, none⟩ = some (.int .u64 J.s) := by rw [cell_at h]; rfl
theorem Jr.c3 (h : Jr t w a p J) : w.cell? ⟨a, 3, none⟩ = some (.int .i64 J.log) := by rw [cell_at h]; rfl
theorem Jr.c4 (h : Jr t w a p J) : w.cell? ⟨a, 4, none⟩ = some (.int .i64 J.p) := by rw [cell_at h]; rfl
theorem Jr.c5 (h : Jr t w a p J) : w.cell? ⟨a, 5, none⟩ = some (.int .i64 J.side) := by rw [cell_at h]; rfl
theorem Jr.c6 (h : Jr t w a p J) : w.cell? ⟨a, 6, none⟩ = some (.int .u64 J.next) := by rw [cell_at h]; rfl
theorem Jr.c7 (h : Jr t w a p J) : w.cell? ⟨a, 7, none⟩ = some (.int .i64 J.full) := by rw [cell_at h]; rfl
theorem Jr.f (h : Jr t w a p J) (i : Nat) : w.frozen? ⟨a, i, none⟩ = false := free_at h i
theorem Jr.lt (h : Jr t w a p J) : a < w.heap.size := (Array.getElem?_eq_some_iff.1 h).1
theorem Jr.below (h : Jr t w a p J) (hb : Below w.heap.size w w') : Jr t w' a p J := by unfold Jr; rw [hb.block a h.lt]; exact h
theorem Jr.only {S : Nat → Prop} (h : Jr t w a p J) (ho : Only S w w') (hs : ¬ S a) : Jr t w' a p J := by unfold Jr; rw [ho.block a h.lt hs]; exact h
end

theorem pos_split (p full i log : Nat) (h0 : p < log) (h1 : full + i ≤ log) :
    (p + full + i < log ∧ 2 + (p + full + i) % log = 2 + (p + full + i)) ∨ (log ≤ p + full + i ∧ 2 + (p + full + i) % log = 2 + (p + full + i - log)) := by
  by_cases h : p + full + i < log
  · exact .inl ⟨h, by rw [Nat.mod_eq_of_lt h]⟩
  · refine .inr ⟨by omega, ?_⟩
    rw [Nat.mod_eq_sub_mod (by omega), Nat.mod_eq_of_lt (by omega)]
theorem JS.Ok.pos_lt {J : JS} {n : Nat} (h : J.Ok n) (i : Nat) : 2 ≤ J.pos i ∧ J.pos i < 2 + J.log := by
  have := Nat.mod_lt (J.p + J.full + i) (show 0 < J.log by have := h.l0; omega)
  unfold JS.pos; omega

section
variable {w : World} {a p : Nat} {J : JS} {n : Nat}

set_option maxRecDepth 100000 in
set_option maxHeartbeats 400000 in
theorem seq_any (h : Jr 79 w a p J) : Calls Tryz.prog 17 #[.pointer (some ⟨a, 0, none⟩)] w fun e w' => e = .returned (.int .u64 J.next) ∧ w = w' := by
  have c := h.c6; clear h
  go_enter Tryz.func17, Tryz.ntmps17
  go_wp2
  go_ret
  exact ⟨rfl, rfl⟩

set_option maxRecDepth 100000 in
set_option maxHeartbeats 400000 in
theorem used_any (h : Jr 79 w a p J) : Calls Tryz.prog 20 #[.pointer (some ⟨a, 0, none⟩)] w fun e w' => e = .returned (.int .i64 J.full) ∧ w = w' := by
  have c := h.c7; clear h
  go_enter Tryz.func20, Tryz.ntmps20
  go_wp2
  go_ret
  exact ⟨rfl, rfl⟩

set_option maxRecDepth 100000 in
set_option maxHeartbeats 400000 in
theorem home_any (h : Jr 79 w a p J) (hl : J.log ≤ 4096) : Calls Tryz.prog 18 #[.pointer (some ⟨a, 0, none⟩)] w fun e w' => e = .returned (.int .i64 J.home) ∧ w = w' := by
  have c := h.c3; clear h
  have e0 : (J.home : Int) = 2 + (J.log : Int) := by unfold JS.home; omega
  rw [e0]; clear e0
  generalize J.log = l at *
  go_enter Tryz.func18, Tryz.ntmps18
  go_wp2
  go_ret
  exact ⟨rfl, rfl⟩

set_option maxRecDepth 100000 in
set_option maxHeartbeats 400000 in
theorem left_drew (h : Jr 79 w a p J) (ok : J.Ok n) (hn : n ≤ 4096) : Calls Tryz.prog 57 #[.pointer (some ⟨a, 0, none⟩)] w fun e w' => e = .returned (.int .i64 J.left) ∧ w' = w.drew := by
  have c := h.c3; have c7 := h.c7; clear h
  have h1 := ok.l1; have h2 := ok.fu
  have e0 : (J.left : Int) = (J.log : Int) - (J.full : Int) := by unfold JS.left; omega
  rw [e0]; clear e0 ok
  generalize J.log = l at *
  generalize J.full = f at *
  have w1 : IntKind.i64.wrap ((l : Int) - (f : Int)) = (l : Int) - (f : Int) := IntWalk.i64_in _ (by omega)
  go_enter Tryz.func57, Tryz.ntmps57
  go_wp2
  go_region
  go_wp2
  go_ret
  exact ⟨rfl, rfl⟩
theorem left_any (h : Jr 79 w a p J) (ok : J.Ok n) (hn : n ≤ 4096) : Calls Tryz.prog 57 #[.pointer (some ⟨a, 0, none⟩)] w fun e w' => e = .returned (.int .i64 J.left) ∧ Below w.heap.size w w' :=
  (left_drew h ok hn).mono fun e w' ⟨he, hw⟩ => by subst hw; exact ⟨he, (Below.refl _ _).drew⟩

set_option maxRecDepth 100000 in
set_option maxHeartbeats 400000 in
theorem behind_drew (i : Nat) (h : Jr 79 w a p J) (ok : J.Ok n) (hn : n ≤ 4096) (hi : J.full + i ≤ J.log) :
    Calls Tryz.prog 66 #[.pointer (some ⟨a, 0, none⟩), .int .i64 i] w fun e w' => e = .returned (.int .i64 (J.pos i)) ∧ w' = w.drew := by
  have c3 := h.c3; have c4 := h.c4; have c7 := h.c7; clear h
  have h1 := ok.l1; have h2 := ok.fu; have h3 := ok.pl
  unfold JS.pos
  have hs := pos_split J.p J.full i J.log h3 hi
  clear ok
  generalize J.log = l at *
  generalize J.full = f at *
  generalize J.p = q at *
  have w1 : IntKind.i64.wrap ((q : Int) + (f : Int)) = (q : Int) + (f : Int) := IntWalk.i64_in _ (by omega)
  have w2 : IntKind.i64.wrap ((q : Int) + (f : Int) + (i : Int)) = (q : Int) + (f : Int) + (i : Int) := IntWalk.i64_in _ (by omega)
  rcases hs with ⟨hlt, e⟩ | ⟨hlt, e⟩
  · have e' : (((2 + (q + f + i) % l : Nat)) : Int) = 2 + ((q : Int) + (f : Int) + (i : Int)) := by rw [e]; omega
    rw [e']
    have hlt' : ¬ (l : Int) ≤ (q : Int) + (f : Int) + (i : Int) := by omega
    have w3 : IntKind.i64.wrap (2 + ((q : Int) + (f : Int) + (i : Int))) = 2 + ((q : Int) + (f : Int) + (i : Int)) := IntWalk.i64_in _ (by omega)
    clear e e'
    go_enter Tryz.func66, Tryz.ntmps66
    go_wp2
    go_region
    go_wp2
    go_ret
    exact ⟨rfl, rfl⟩
  · have e' : (((2 + (q + f + i) % l : Nat)) : Int) = 2 + ((q : Int) + (f : Int) + (i : Int) - (l : Int)) := by rw [e]; omega
    rw [e']
    have hlt' : (l : Int) ≤ (q : Int) + (f : Int) + (i : Int) := by omega
    have w3 : IntKind.i64.wrap ((q : Int) + (f : Int) + (i : Int) - (l : Int)) = (q : Int) + (f : Int) + (i : Int) - (l : Int) := IntWalk.i64_in _ (by omega)
    have w4 : IntKind.i64.wrap (2 + ((q : Int) + (f : Int) + (i : Int) - (l : Int))) = 2 + ((q : Int) + (f : Int) + (i : Int) - (l : Int)) := IntWalk.i64_in _ (by omega)
    clear e e'
    go_enter Tryz.func66, Tryz.ntmps66
    go_wp2
    go_region
    go_wp2
    go_ret
    exact ⟨rfl, rfl⟩
theorem behind_any (i : Nat) (h : Jr 79 w a p J) (ok : J.Ok n) (hn : n ≤ 4096) (hi : J.full + i ≤ J.log) :
    Calls Tryz.prog 66 #[.pointer (some ⟨a, 0, none⟩), .int .i64 i] w fun e w' => e = .returned (.int .i64 (J.pos i)) ∧ Below w.heap.size w w' :=
  (behind_drew i h ok hn hi).mono fun e w' ⟨he, hw⟩ => by subst hw; exact ⟨he, (Below.refl _ _).drew⟩

theorem Jr.put {t : TypeId} {J' : JS} {i : Nat} {v : Value} (h : Jr t w a p J) (hc : (JCells p J).setIfInBounds i v = JCells p J') : Jr t (w.setCell ⟨a, i, none⟩ v) a p J' := by
  unfold Jr; rw [heap_setCell_at h, hc]

set_option maxRecDepth 100000 in
set_option maxHeartbeats 400000 in
theorem grow_any (m : Nat) (h : Jr 79 w a p J) (ok : J.Ok n) (hn : n ≤ 4096) (hm : m ≤ 5000) :
    Calls Tryz.prog 82 #[.pointer (some ⟨a, 0, none⟩), .int .i64 m] w fun e w' => e = .returned (.tuple #[]) ∧ Jr 79 w' a p (J.grow m) ∧ Only (fun k => k = a) w w' ∧ w'.heap.size = w.heap.size := by
  have c6 := h.c6; have f6 := h.f 6; have c7 := h.c7; have f7 := h.f 7
  have h1 := ok.l1; have h2 := ok.fu
  obtain ⟨x, hx⟩ : ∃ x : Nat, x = (J.next + 1) % 18446744073709551616 := ⟨_, rfl⟩
  have wn : IntKind.u64.wrap ((J.next : Int) + 1) = (x : Int) := by rw [hx]; simp [IntKind.wrap, IntKind.bits, IntKind.signed]
  have hj : Hid (Jr 79 ((w.setCell ⟨a, 6, none⟩ (.int .u64 x)).setCell ⟨a, 7, none⟩ (.int .i64 ((J.full : Int) + (m : Int)))) a p (J.grow m)) := by
    have h1 := h.put (J' := { J with next := x }) (i := 6) (v := .int .u64 x) rfl
    exact h1.put (by unfold JS.grow; rw [← hx]; simp [JCells])
  have HX := Lib.hid hx; clear hx
  have wf : IntKind.i64.wrap ((J.full : Int) + (m : Int)) = (J.full : Int) + (m : Int) := IntWalk.i64_in _ (by omega)
  clear ok h
  generalize J.next = nx at *
  generalize J.full = fu at *
  go_enter Tryz.func82, Tryz.ntmps82
  go_wp2
  go_end0
  exact ⟨rfl, hj.out, ((Only.refl (fun k => k = a) w).setCell (p := ⟨a, 6, none⟩) (fun _ => rfl) _).setCell (p := ⟨a, 7, none⟩) (fun _ => rfl) _, by simp [World.setCell]⟩

set_option maxRecDepth 100000 in
set_option maxHeartbeats 400000 in
theorem fits_any (log : Int) (b : Nat) (hb : b ≤ 4096) : Calls Tryz.prog 48 #[.int .i64 log, .int .i64 b] w fun e w' => e = .returned (.bool (decide (50 ≤ log ∧ log ≤ (b : Int) - 3))) ∧ w = w' := by
  by_cases h : 50 ≤ log
  · by_cases h2 : log ≤ (b : Int) - 3
    · have e : decide (50 ≤ log ∧ log ≤ (b : Int) - 3) = true := by simp [h, h2]
      rw [e]
      have w1 : IntKind.i64.wrap ((b : Int) - 2) = (b : Int) - 2 := IntWalk.i64_in _ (by omega)
      have w2 : IntKind.i64.wrap ((b : Int) - 2 - 1) = (b : Int) - 2 - 1 := IntWalk.i64_in _ (by omega)
      have h3 : log ≤ (b : Int) - 2 - 1 := by omega
      clear e h2
      go_enter Tryz.func48, Tryz.ntmps48
      go_wp2
      go_ret
      exact ⟨rfl, rfl⟩
    · have e : decide (50 ≤ log ∧ log ≤ (b : Int) - 3) = false := by simp; omega
      rw [e]
      have w1 : IntKind.i64.wrap ((b : Int) - 2) = (b : Int) - 2 := IntWalk.i64_in _ (by omega)
      have w2 : IntKind.i64.wrap ((b : Int) - 2 - 1) = (b : Int) - 2 - 1 := IntWalk.i64_in _ (by omega)
      have h3 : ¬ log ≤ (b : Int) - 2 - 1 := by omega
      clear e h2
      go_enter Tryz.func48, Tryz.ntmps48
      go_wp2
      go_ret
      exact ⟨rfl, rfl⟩
  · have e : decide (50 ≤ log ∧ log ≤ (b : Int) - 3) = false := by simp; omega
    rw [e]
    clear e
    go_enter Tryz.func48, Tryz.ntmps48
    go_wp2
    go_ret
    exact ⟨rfl, rfl⟩
end
end Go.Proofs.YtepfcaopboenpaaGreat
