/- A range over a function that tells so many rounds, each known by its number: the iterator may itself go over another one. Of no program. -/
import Derived.RangeFuncNested
import Derived.RangeFuncBound
import Derived.RangeFuncCalls
import Derived.RangeFuncLeaves
namespace Go.Proofs.YtbblmpibekkbfaaDoor
open Go.RowKit

theorem round_any {F : Fence} (hd : F.depth = none) {m m' : Nat} {P : Program} {l : Nat} {f : FuncId} {tmps : Array Value} {assign body : Code} {w : World} {R : Ending → World → Prop} (h : RoundIn F m P l f tmps assign body w R) : RoundIn F m' P l f tmps assign body w R :=
  ⟨h.1, fun c cs _ => h.2 c cs (fun d e => by rw [hd] at e; cases e)⟩
theorem yield_any {F : Fence} (hd : F.depth = none) {m m' : Nat} {P : Program} {l : Nat} {args : Array Value} {W : World} {R : Ending → World → Prop} (h : YieldAt F m P l args W R) : YieldAt F m' P l args W R := by
  obtain ⟨fn, tmps, assign, body, hy, hR⟩ := h
  exact ⟨fn, tmps, assign, body, hy, round_any hd hR⟩

/-- What abides the turn of objects of some kind, from B on. -/
def AbFrom (Ok : Obj → Prop) (B : Nat) (I : Nat → World → Prop) : Prop :=
  ∀ s W W' row, I s W → W.grownBy W' row → (∀ r, row = some r → B ≤ r ∧ ∃ o : Obj, W.heap[r]? = some o ∧ Ok o) → I s W'
theorem AbFrom.own {Ok : Obj → Prop} (hOk : ∀ o, o.isCells = false → Ok o) {B : Nat} {I : Nat → World → Prop} (h : AbFrom Ok B I) : OwnFrom B I := fun s W W' row hs hg hr => h s W W' row hs hg fun r e => by
  obtain ⟨h1, o, h2, h3⟩ := hr r e
  exact ⟨h1, o, h2, hOk o h3⟩
theorem AbFrom.mono {Ok : Obj → Prop} {B B' : Nat} (hb : B ≤ B') {I : Nat → World → Prop} (h : AbFrom Ok B I) : AbFrom Ok B' I := fun s W W' row hs hg hr => h s W W' row hs hg fun r e => by
  obtain ⟨h1, o, h2, h3⟩ := hr r e
  exact ⟨by omega, o, h2, h3⟩
theorem AbFrom.below {Ok : Obj → Prop} {B : Nat} {I : Nat → World → Prop} (h : AbFrom Ok B I) {k : Nat} {W W' : World} (hi : I k W) (hb : Below W.heap.size W W') : I k W' :=
  h k W W' none hi ⟨hb.os, hb.tape, hb.output, hb.size, fun q hq _ => hb.block q hq⟩ (fun r e => by cases e)
/-- What an iterator owes: K rounds, told by yield, in their order; what a round keeps. Ok: the kind of objects that the iterator turns. -/
def SeqAll (Ok : Obj → Prop) (P : Program) (g : Nat) (lb : Array Value) (encs : Nat → Array Value) (Kp : World → World → Prop) (K : Nat) (w : World) : Prop :=
  ∀ (l : Nat) (J : Nat → World → Prop) (W : World), Below w.heap.size w W → AbFrom Ok W.heap.size J →
    (∀ k W1, k < K → J k W1 → YieldAt Fence.wide 0 P l (encs k) W1 fun e W' => e = .returned (.bool true) ∧ J (k + 1) W' ∧ Kp W1 W' ∧ KeepsFrom W.heap.size W1 W') →
    J 0 W → Calls P g (#[.func (.yield l) #[] #[]] ++ lb) W fun e W' => (∃ v, e = .returned v) ∧ J K W'

/-- How a round's body ends: it goes on. -/
def allPost (B : Nat) (Kp : World → World → Prop) (I : Nat → World → Prop) (k : Nat) (W : World) : Exit → Act → World → Prop
  | .normal, _, W' => KeepsFrom B W W' ∧ Kp W W' ∧ I k W'
  | .ret, _, _ => False
  | .exit _, _, _ => False
  | .goto _, _, _ => False
  | .panic _, _, _ => False
  | .outgrown, _, _ => False

theorem range_all {Ok : Obj → Prop} (hOk : ∀ o, o.isCells = false → Ok o) {P : Program} {n : Nat} {g : Operand} {ps : Array Tmp} {assign body : Code} {Q : Exit → Act → World → Prop} {a : Act} {w : World} {gf : Nat} {lb : Array Value}
    (hg : a.eval g = .func (.func gf) #[] lb) (eg : ∀ args w, (callFunc gf args).run P w = .ok (.enter gf args) w)
    {encs : Nat → Array Value} {Kp : World → World → Prop} {K : Nat} {w0 : World} (hseq : SeqAll Ok P gf lb encs Kp K w0)
    (hKt : ∀ {A B C : World}, Kp A B → Kp B C → Kp A C) (hKb : ∀ (W : World) (l : Nat) (o o' : Obj), w.heap.size ≤ l → W.heap[l]? = some o → o.isCells = false → o.isWalk = false → Kp W (W.putObj l o'))
    (hb0 : Below w0.heap.size w0 w) (hps : ∀ k, (encs k).size = ps.size) (I : Nat → World → Prop) (hI' : AbFrom Ok w.heap.size I) (h0 : I 0 w) (a₁ : Nat → Act)
    (hassign : ∀ (l k : Nat) (W : World) (R : Act → World → Prop), R (a₁ k) W →
      assign.wpIn (Fence.wide.inRound l) n P (Exit.then R (fun _ _ _ => False)) { tmps := (ps.zip (encs k)).foldl (fun t (p, v) => t.setIfInBounds p v) a.tmps, defers := [] } W)
    (hbody : ∀ (l k : Nat) (W : World), k < K → I k W → body.wpIn (Fence.wide.inRound l) n P (allPost w.heap.size Kp I (k + 1) W) (a₁ k) W)
    (hdone : ∀ (D : Nat) (W : World), w.heap.size ≤ D → I K W → W.heap[D]? = some (.deferred (some [])) → Q .normal { a with defers := { target := .collected D, args := #[] } :: a.defers } W) :
    (Code.rangeFunc g ps assign body).wpIn Fence.wide n P Q a w := by
  have hI := hI'.own hOk
  refine wpIn_rangeFunc fun fn hfn => ?_
  obtain ⟨rc, hrc⟩ : ∃ rc : LoopState → Loop, rc = fun st => { state := st, pending := none, fn, tmps := a.tmps, params := ps, assign, body, defers := w.heap.size } := ⟨_, rfl⟩
  obtain ⟨D, hD⟩ : ∃ D, w.heap.size = D := ⟨_, rfl⟩
  obtain ⟨W1, hW1⟩ : ∃ W1, (w.alloc (.deferred (some []))).alloc (.loop (rc .ready)) = W1 := ⟨_, rfl⟩
  have hsz : W1.heap.size = D + 2 := by rw [← hW1]; simp; omega
  have hl1 : W1.heap[D + 1]? = some (.loop (rc .ready)) := by
    rw [← hW1, ← hD]
    have := World.alloc_heap_new (w.alloc (.deferred (some []))) (.loop (rc .ready))
    rwa [World.size_alloc] at this
  have hd1 : W1.heap[D]? = some (.deferred (some [])) := by
    rw [← hW1, ← hD]
    exact (Below.heap_alloc _ _ _ (by simp)).trans (World.alloc_heap_new w _)
  have hi1 : I 0 W1 := by rw [← hW1]; exact hI.alloc _ (hI.alloc _ h0)
  have hb1 : Below w0.heap.size w0 W1 := by
    rw [← hW1]
    exact hb0.trans ((((Below.refl _ w).alloc (Nat.le_refl _) _).alloc (by simp) _).mono hb0.size)
  have hcall := hseq (D + 1) (fun k W => I k W ∧ W.heap[D + 1]? = some (.loop (rc .ready)) ∧ W.heap[D]? = some (.deferred (some []))) W1 hb1
    (fun k X Y row hs hgr hr => by
      obtain ⟨hi, hl, hd⟩ := hs
      have hX : D + 1 < X.heap.size := (Array.getElem?_eq_some_iff.1 hl).1
      refine ⟨hI' k X Y row hi hgr fun r e => ?_, (hgr.block (D + 1) hX fun e => ?_).trans hl, (hgr.block D (by omega) fun e => ?_).trans hd⟩
      · obtain ⟨h1, h2⟩ := hr r e
        exact ⟨by omega, h2⟩
      · have := (hr _ e.symm).1; omega
      · have := (hr _ e.symm).1; omega)
    (fun k W hk hJ => by
      obtain ⟨hi, hl, hd⟩ := hJ
      have hlt : D + 1 < W.heap.size := (Array.getElem?_eq_some_iff.1 hl).1
      have hy := run_yield (P := P) (args := encs k) hl (by rw [hrc]; exact hps k)
      rw [hrc] at hy
      refine ⟨fn, _, assign, body, hy, round_any rfl (roundIn_of_wpIn (n := n) hfn (hassign _ k W _ ⟨_, run_beginRound hl (by rw [hrc]), ?_⟩))⟩
      clear hy
      obtain ⟨W2, hW2⟩ : ∃ W2, W.putObj (D + 1) (.loop { rc .ready with state := .busy }) = W2 := ⟨_, rfl⟩
      have hl2 : W2.heap[D + 1]? = some (.loop { rc .ready with state := .busy }) := by rw [← hW2]; exact World.putObj_heap_same hlt
      have hd2 : W2.heap[D]? = some (.deferred (some [])) := by rw [← hW2]; exact (World.putObj_heap_other (by omega)).trans hd
      have hi2 : I k W2 := by rw [← hW2]; exact hI.putObj _ hi (by omega) hl rfl
      have hk2 : Kp W W2 := by rw [← hW2]; exact hKb W (D + 1) _ _ (by omega) hl rfl rfl
      have hf2 : KeepsFrom W1.heap.size W W2 := by rw [← hW2]; exact KeepsFrom.of_grownBy (grownBy_putObj' W (D + 1) _) (fun j e => by cases e; omega)
      rw [hW2]
      refine wpIn_mono (hbody _ k W2 hk hi2) ?_
      rintro e a3 W3 hp
      cases e with
      | normal =>
        obtain ⟨hf3, hk3, hi3⟩ := hp
        have hl3 := hf3.same _ _ (by omega) hl2 rfl
        have hd3 := hf3.same _ _ (by omega) hd2 rfl
        have hlt3 : D + 1 < W3.heap.size := (Array.getElem?_eq_some_iff.1 hl3).1
        have hend := run_endRound (P := P) none hl3
        have hrec : (Obj.loop { { rc .ready with state := .busy } with state := if (none : Option Code).isNone then .ready else .done, pending := none }) = .loop (rc .ready) := by rw [hrc]; rfl
        rw [hrec] at hend
        refine ⟨_, _, hend, rfl, ⟨hI.putObj _ hi3 (by omega) hl3 rfl, World.putObj_heap_same hlt3, (World.putObj_heap_other (by omega)).trans hd3⟩, hKt hk2 (hKt hk3 (hKb W3 (D + 1) _ _ (by omega) hl3 rfl rfl)), ?_⟩
        refine (hf2.trans ⟨hf3.size, fun q o hq h h' => hf3.same q o (by omega) h h'⟩).trans (KeepsFrom.of_grownBy (grownBy_putObj' W3 (D + 1) _) (fun j e => by cases e; omega))
      | ret => exact hp.elim
      | exit _ => exact hp.elim
      | goto _ => exact hp.elim
      | panic _ => exact hp.elim
      | outgrown => exact hp.elim)
    ⟨hi1, hl1, hd1⟩
  refine ⟨D + 1, [{ target := .collected D, args := #[] }], W1, { target := .fn (.func gf) lb, args := #[.func (.yield (D + 1)) #[] #[]] }, W1, gf, #[.func (.yield (D + 1)) #[] #[]] ++ lb, W1, ?_, ?_, fun _ _ => trivial, ?_, (fun h => by cases h), ?_⟩
  · rw [← hW1, hrc, ← hD]
    exact run_enterLoop_outer _ _ _ _ _
  · simp only [resolve, hg]
    simp [go_sem]
  · simp [invoke, go_sem, eg]
  · refine (callsIn_wide.2 hcall).mono ?_
    rintro e W2 ⟨⟨v, rfl⟩, hi, hl, hd⟩
    have hend := run_endLoop (P := P) hl (by rw [hrc]; simp)
    have hp : (rc .ready).pending = none := by rw [hrc]
    rw [hp] at hend
    exact ⟨none, _, hend, hdone D _ (by omega) (hI.putObj _ hi (by omega) hl rfl) ((World.putObj_heap_other (by omega)).trans hd)⟩
end Go.Proofs.YtbblmpibekkbfaaDoor
