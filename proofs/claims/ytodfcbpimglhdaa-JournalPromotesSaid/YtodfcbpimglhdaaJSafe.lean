/- Crashes, in plain lists: behind whatever is kept of what is pending, Open finds home as the commits made it. -/
import Derived.Test.YtodfcbpimglhdaaJRec
namespace Go.Proofs.Ytodfcbpimglhdaa
open Go.RowKit
open Fr (bs fixL nmAt headB topL unp WrOk packL)

/-- The last write of a block, or what lies there. -/
def vN (P : List (Nat × ByteArray)) (g : Nat → ByteArray) (b : Nat) : ByteArray := match P.reverse.find? (fun x => x.1 == b) with | some x => x.2 | none => g b
theorem rdB_vN (D : DevS) (b : Nat) : D.rdB b = vN D.pend (gd D.disk) b := by unfold DevS.rdB vN gd; rfl
theorem vN_append (P Q : List (Nat × ByteArray)) (g : Nat → ByteArray) (b : Nat) : vN (P ++ Q) g b = vN Q (vN P g) b := by
  unfold vN
  rw [List.reverse_append, List.find?_append]
  cases Q.reverse.find? (fun x => x.1 == b) <;> rfl
theorem vN_none {P : List (Nat × ByteArray)} {g : Nat → ByteArray} {b : Nat} (h : ∀ x ∈ P, x.1 ≠ b) : vN P g b = g b := by
  unfold vN
  have : P.reverse.find? (fun x => x.1 == b) = none := by
    rw [List.find?_eq_none]; intro x hx; have := h x (List.mem_reverse.1 hx); simpa using this
  rw [this]
theorem vN_hit {P : List (Nat × ByteArray)} {g g' : Nat → ByteArray} {b : Nat} (h : (∃ x ∈ P, x.1 = b) ∨ g b = g' b) : vN P g b = vN P g' b := by
  unfold vN
  cases hf : P.reverse.find? (fun x => x.1 == b) with
  | some x => rfl
  | none =>
    rcases h with ⟨x, hx, rfl⟩ | h
    · rw [List.find?_eq_none] at hf
      have := hf x (List.mem_reverse.2 hx)
      simp at this
    · exact h
theorem vN_at {P Q : List (Nat × ByteArray)} {x : Nat × ByteArray} {g : Nat → ByteArray} (h : ∀ y ∈ Q, y.1 ≠ x.1) : vN (P ++ x :: Q) g x.1 = x.2 := by
  rw [vN_append, show x :: Q = [x] ++ Q from rfl, vN_append, vN_none h]
  unfold vN; simp

theorem laid256 {P : List (Nat × ByteArray)} {d : List ByteArray} (b : Nat) (hb : b < d.length) (hd : ∀ s ∈ d, s.size = 256) (hp : ∀ x ∈ P, x.1 < d.length ∧ x.2.size = 256) : gd (laidTo (fun _ => 256) P d P.length) b = vN P (gd d) b := by
  have := (laidTo_get (fun _ => 256) P d P.length b (Nat.le_refl _) (fun _ _ => rfl) hb hd hp).1
  unfold gd vN
  rw [this, List.take_length]
  rfl

/-- A disk that Open takes up; what home is then. -/
structure Rec (N n : Nat) (d : List ByteArray) (H : Nat → ByteArray) (J : JS) (F : List (List Wr)) : Prop where
  len : d.length = n
  whole : ∀ s ∈ d, s.size = 256
  good : Good N (gd d) n J F
  view : ∀ b, 52 ≤ b → b < n → vN (natW F.flatten) (gd d) b = H b
/-- Whatever a crash keeps, it is such a disk. -/
def Safe (N n : Nat) (D : DevS) (P : (Nat → ByteArray) → Prop) : Prop := ∀ f : Nat → Nat, (∀ k, f k ≤ 256) → ∃ H J F, P H ∧ Rec N n (laidTo f D.pend D.disk D.pend.length) H J F
theorem Safe.mono {N n : Nat} {D : DevS} {P Q : (Nat → ByteArray) → Prop} (h : Safe N n D P) (hq : ∀ H, P H → Q H) : Safe N n D Q := fun f hf => by
  obtain ⟨H, J, F, h1, h2⟩ := h f hf; exact ⟨H, J, F, hq H h1, h2⟩
theorem Rec.more {N M n : Nat} {d : List ByteArray} {H : Nat → ByteArray} {J : JS} {F : List (List Wr)} (h : Rec N n d H J F) (hM : N ≤ M) (hb : M < 1000000) : Rec M n d H J F := ⟨h.len, h.whole, h.good.more hM hb, h.view⟩

/-- A device at work. -/
structure Pre (N n : Nat) (J : JS) (D : DevS) (H : Nat → ByteArray) (F : List (List Wr)) : Prop where
  dok : D.Ok
  live : D.dead = false
  len : D.disk.length = n
  good : Good N (gd D.disk) n J F
  pend : ∀ x ∈ D.pend, 52 ≤ x.1 ∧ ∃ y ∈ natW F.flatten, y.1 = x.1
  view : ∀ b, 52 ≤ b → b < n → vN (natW F.flatten) (gd D.disk) b = H b
  read : ∀ b, 52 ≤ b → b < n → D.rdB b = H b
structure Sync (N n : Nat) (J : JS) (D : DevS) (H : Nat → ByteArray) (F : List (List Wr)) : Prop where
  pre : Pre N n J D H F
  zero : gd D.disk (J.pos 0) = noughts
  older : Older (gd D.disk (1 - J.side)) J.e

section
variable {N n : Nat} {J : JS} {D : DevS} {H : Nat → ByteArray} {F : List (List Wr)}

/-- A pending write that does no harm: at home, of a block that the log writes anyway; or in the log, behind the next head's place. -/
def Harm (J : JS) (F : List (List Wr)) (x : Nat × ByteArray) : Prop := (52 ≤ x.1 ∧ ∃ y ∈ natW F.flatten, y.1 = x.1) ∨ ∃ o, J.full < o ∧ o < J.log ∧ x.1 = 2 + (J.p + o) % J.log
theorem good_low (h : Good N (gd D.disk) n J F) {P : List (Nat × ByteArray)} (hp : ∀ x ∈ P, Harm J F x) : (∀ x ∈ P, x.1 ≠ J.side ∧ x.1 ≠ 1 - J.side ∧ 2 ≤ x.1) ∧ (∀ x ∈ P, ∀ o, o ≤ J.full → x.1 ≠ 2 + (J.p + o) % J.log) := by
  have hs := h.ok.si; have hr := h.room; have hl := h.lg
  refine ⟨fun x hx => ?_, fun x hx o ho => ?_⟩
  · rcases hp x hx with ⟨h1, _⟩ | ⟨o, _, _, h1⟩
    · omega
    · omega
  · rcases hp x hx with ⟨h1, _⟩ | ⟨o', ho1, ho2, h1⟩
    · have := Nat.mod_lt (J.p + o) (show 0 < J.log by omega); omega
    · have := mod_ne J.p J.log o' o ho2 (by omega) (by omega); omega
theorem harm_rec {f : Nat → Nat} (hf : ∀ k, f k ≤ 256) (ok : D.Ok) (hn : D.disk.length = n) (h : Good N (gd D.disk) n J F) (hv : ∀ b, 52 ≤ b → b < n → vN (natW F.flatten) (gd D.disk) b = H b) (hp : ∀ x ∈ D.pend, Harm J F x) :
    Rec N n (laidTo f D.pend D.disk D.pend.length) H J F := by
  obtain ⟨h1, h2⟩ := good_low h hp
  refine ⟨by rw [laidTo_length]; exact hn, (ok.settled f (fun k _ => hf k)).whole, ?_, fun b hb hbn => ?_⟩
  · exact h.change (laid_other _ _ (fun x hx => (h1 x hx).1)) (laid_other _ _ (fun x hx => (h1 x hx).2.1)) (fun o ho => laid_other _ _ (fun x hx => h2 x hx o ho))
  · rw [← hv b hb hbn]
    apply vN_hit
    by_cases hx : ∃ x ∈ natW F.flatten, x.1 = b
    · exact .inl hx
    · refine .inr (laid_other _ _ (fun x hxp e => ?_))
      rcases hp x hxp with ⟨_, y, hy, hye⟩ | ⟨o, _, _, h5⟩
      · exact hx ⟨y, hy, hye.trans e⟩
      · have := Nat.mod_lt (J.p + o) (show 0 < J.log by have := h.lg; omega)
        have := h.lg
        omega
theorem Pre.safe (h : Pre N n J D H F) : Safe N n D (· = H) := fun _ hf => ⟨H, J, F, rfl, harm_rec hf h.dok h.len h.good h.view (fun x hx => .inl (h.pend x hx))⟩
end
end Go.Proofs.Ytodfcbpimglhdaa
