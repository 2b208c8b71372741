/- What the device's small methods answer and leave behind, for every device, under the device's own invariant: turn, check, Dead, Blocks, Fuse. -/
import Derived.Test.YtodfcbpimglhdaaBase
namespace Go.Proofs.Ytodfcbpimglhdaa
open Go.RowKit

/-- Block p is a device that says D, wherever its rows lie. -/
def Stands (S : Nat → Prop) (w : World) (p : Nat) (D : DevS) : Prop := ∃ q pv, Dev S w p q pv D
theorem Stands.kept {S : Nat → Prop} {w w' : World} {p : Nat} {D : DevS} {T : Nat → Prop} (d : Stands S w p D) (h : Only T w w') (hT : ∀ k, S k → ¬ T k) : Stands S w' p D := by
  obtain ⟨q, pv, d⟩ := d; exact ⟨q, pv, d.kept h hT⟩
theorem Stands.below {S : Nat → Prop} {w w' : World} {p : Nat} {D : DevS} (d : Stands S w p D) (h : Below w.heap.size w w') : Stands S w' p D :=
  d.kept (Only.of_below (fun _ => False) h (Nat.le_refl _)) (fun _ _ f => f)
theorem Stands.ok {S : Nat → Prop} {w : World} {p : Nat} {D : DevS} (d : Stands S w p D) : D.Ok := by obtain ⟨q, pv, d⟩ := d; exact d.ok
theorem Stands.lt {S : Nat → Prop} {w : World} {p : Nat} {D : DevS} (d : Stands S w p D) : ∀ k, S k → k < w.heap.size := by obtain ⟨q, pv, d⟩ := d; exact d.lt

/-- What a call that may write on a device leaves: it says D', on its own blocks and new ones; all other blocks are as they were. -/
def Leaves (S : Nat → Prop) (w w' : World) (p : Nat) (D' : DevS) : Prop :=
  ∃ S' : Nat → Prop, (∀ k, S' k → S k ∨ w.heap.size ≤ k) ∧ Stands S' w' p D' ∧ Only S w w'
theorem Leaves.mk {S : Nat → Prop} {w w' : World} {p : Nat} {D : DevS} (d : Stands S w' p D) (h : Only S w w') : Leaves S w w' p D := ⟨S, fun _ => .inl, d, h⟩

section
variable {S : Nat → Prop} {w : World} {p q : Nat} {pv : Value} {D : DevS}

/-- One turn. -/
def DevS.tk (D : DevS) : Bool × DevS := if D.fused = false then (true, D) else if D.fuse = 0 then (false, { D with dead := true }) else (true, { D with fuse := D.fuse - 1 })
/-- Why block i can't be used. -/
def DevS.ck (D : DevS) (i : Int) : Int := if D.dead then 4 else if i < 0 ∨ (D.disk.length : Int) ≤ i then 2 else 0
def DevS.setFuse (D : DevS) (n : Int) : DevS := { D with fused := decide (0 ≤ n), fuse := max n 0 }

theorem DevS.Ok.tk (ok : D.Ok) : D.tk.2.Ok := by
  unfold DevS.tk; split
  · exact ok
  · split
    · exact ⟨ok.some, ok.few, ok.whole, ok.pends, ok.fuse0, ok.fuse1⟩
    · exact ⟨ok.some, ok.few, ok.whole, ok.pends, by have := ok.fuse0; simp; omega, by have := ok.fuse1; simp; omega⟩

set_option maxRecDepth 100000 in
set_option maxHeartbeats 400000 in
theorem turn_free (p : Nat) (w : World) (h2 : w.cell? ⟨p, 2, none⟩ = some (.bool false)) :
    Calls Try.prog 45 #[.pointer (some ⟨p, 0, none⟩)] w fun e w' => e = .returned (.bool true) ∧ w = w' := by
  go_enter Try.func45, Try.ntmps45
  go_wp2
  go_ret
  exact ⟨rfl, rfl⟩

set_option maxRecDepth 100000 in
set_option maxHeartbeats 400000 in
theorem turn_dies (p : Nat) (w : World) (h2 : w.cell? ⟨p, 2, none⟩ = some (.bool true)) (h3 : w.cell? ⟨p, 3, none⟩ = some (.int .i64 0)) (de : Bool) (h4 : w.cell? ⟨p, 4, none⟩ = some (.bool de)) (hf : w.frozen? ⟨p, 4, none⟩ = false) :
    Calls Try.prog 45 #[.pointer (some ⟨p, 0, none⟩)] w fun e w' => e = .returned (.bool false) ∧ w' = w.setCell ⟨p, 4, none⟩ (.bool true) := by
  go_enter Try.func45, Try.ntmps45
  go_wp2
  go_ret
  exact ⟨rfl, rfl⟩

set_option maxRecDepth 100000 in
set_option maxHeartbeats 400000 in
theorem turn_goes (p : Nat) (w : World) (n : Int) (hn : 1 ≤ n) (hm : n ≤ 9223372036854775807) (h2 : w.cell? ⟨p, 2, none⟩ = some (.bool true)) (h3 : w.cell? ⟨p, 3, none⟩ = some (.int .i64 n)) (hf : w.frozen? ⟨p, 3, none⟩ = false) :
    Calls Try.prog 45 #[.pointer (some ⟨p, 0, none⟩)] w fun e w' => e = .returned (.bool true) ∧ w' = w.setCell ⟨p, 3, none⟩ (.int .i64 (n - 1)) := by
  have h0 : (n == 0) = false := by simp; omega
  go_enter Try.func45, Try.ntmps45
  go_wp2
  go_ret
  exact ⟨rfl, rfl⟩

/-- A turn, at every device. -/
theorem turn_any (d : Dev S w p q pv D) :
    Calls Try.prog 45 #[.pointer (some ⟨p, 0, none⟩)] w fun e w' => e = .returned (.bool D.tk.1) ∧ Dev S w' p q pv D.tk.2 ∧ Only S w w' ∧ w'.heap.size = w.heap.size := by
  have c2 := d.c2; have c3 := d.c3; have f3 := d.f 3; have f4 := d.f 4; have c4 := d.c4
  by_cases hf : D.fused = false
  · rw [hf] at c2
    refine (turn_free p w c2).mono fun e w' ⟨he, hw⟩ => ?_
    subst hw
    refine ⟨?_, ?_, Only.refl _ _, rfl⟩
    · simp [DevS.tk, hf, he]
    · simpa [DevS.tk, hf] using d
  · have hft : D.fused = true := by simpa using hf
    rw [hft] at c2
    by_cases h0 : D.fuse = 0
    · rw [h0] at c3
      refine (turn_dies p w c2 c3 D.dead c4 f4).mono fun e w' ⟨he, hw⟩ => ?_
      subst hw
      have e2 : D.tk = (false, { D with dead := true }) := by simp [DevS.tk, hft, h0]
      rw [e2]
      refine ⟨he, d.put 4 _ _ pv ⟨d.ok.some, d.ok.few, d.ok.whole, d.ok.pends, d.ok.fuse0, d.ok.fuse1⟩ rfl rfl d.hr d.rp d.rq d.sr, (Only.refl _ _).setCell (fun _ => d.sp) _, by simp [World.setCell]⟩
    · have b0 := d.ok.fuse0; have b1 := d.ok.fuse1
      refine (turn_goes p w D.fuse (by omega) b1 c2 c3 f3).mono fun e w' ⟨he, hw⟩ => ?_
      subst hw
      have e2 : D.tk = (true, { D with fuse := D.fuse - 1 }) := by simp [DevS.tk, hft, h0]
      rw [e2]
      refine ⟨he, d.put 3 _ _ pv ⟨d.ok.some, d.ok.few, d.ok.whole, d.ok.pends, by simp; omega, by simp; omega⟩ rfl rfl d.hr d.rp d.rq d.sr, (Only.refl _ _).setCell (fun _ => d.sp) _, by simp [World.setCell]⟩

set_option maxRecDepth 100000 in
set_option maxHeartbeats 400000 in
theorem check_any (i : Int) (d : Dev S w p q pv D) :
    Calls Try.prog 44 #[.pointer (some ⟨p, 0, none⟩), .int .i64 i] w fun e w' => e = .returned (.int .i64 (D.ck i)) ∧ w = w' := by
  have c0 := d.c0; have c4 := d.c4; have hn := d.ok.few
  have HK : Hid (D.ck i = if D.dead then 4 else if i < 0 ∨ (D.disk.length : Int) ≤ i then 2 else 0) := rfl
  generalize D.ck i = r at HK ⊢
  generalize D.dead = de at *
  generalize D.disk.length = n at *
  clear d
  cases de
  · by_cases h1 : i < 0
    · go_enter Try.func44, Try.ntmps44
      go_wp2
      go_ret
      exact ⟨by rw [HK.out]; simp [h1], rfl⟩
    · by_cases h2 : (n : Int) ≤ i
      · go_enter Try.func44, Try.ntmps44
        go_wp2
        go_ret
        exact ⟨by rw [HK.out]; simp [h2], rfl⟩
      · go_enter Try.func44, Try.ntmps44
        go_wp2
        go_ret
        exact ⟨by rw [HK.out]; simp [h1, h2], rfl⟩
  · go_enter Try.func44, Try.ntmps44
    go_wp2
    go_ret
    exact ⟨by rw [HK.out]; rfl, rfl⟩

set_option maxRecDepth 100000 in
set_option maxHeartbeats 400000 in
theorem dead_any (d : Stands S w p D) :
    Calls Try.prog 39 #[.pointer (some ⟨p, 0, none⟩)] w fun e w' => e = .returned (.bool D.dead) ∧ w = w' := by
  obtain ⟨q, pv, d⟩ := d
  have c4 := d.c4
  clear d
  go_enter Try.func39, Try.ntmps39
  go_wp2
  go_ret
  exact ⟨rfl, rfl⟩

set_option maxRecDepth 100000 in
set_option maxHeartbeats 400000 in
theorem blocks_any (d : Stands S w p D) :
    Calls Try.prog 38 #[.pointer (some ⟨p, 0, none⟩)] w fun e w' => e = .returned (.int .i64 D.disk.length) ∧ w = w' := by
  obtain ⟨q, pv, d⟩ := d
  have c0 := d.c0; have hn := d.ok.few
  clear d
  go_enter Try.func38, Try.ntmps38
  go_wp2
  go_ret
  exact ⟨rfl, rfl⟩

end
end Go.Proofs.Ytodfcbpimglhdaa
