/- A range over a function that tells so many rounds, each known by its number: the iterator may itself go over another one. Of no program. -/
import Derived.RangeFuncNested
import Derived.RangeFuncBound
import Derived.RangeFuncCalls
import Derived.RangeFuncLeaves

namespace Go.Proofs.Ytjfclpicoamfaaa
open Go.RowKit
theorem round_any {F : Fence} (hd : F.depth = none) {m m' : Nat} {P : Program} {l : Nat} {f : FuncId} {tmps : Array Value} {assign body : Code} {w : World} {R : Ending -> World -> Prop} (h : RoundIn F m P l f tmps assign body w R) : RoundIn F m' P l f tmps assign body w R :=
 ⟨h.1, fun c cs _ => h.2 c cs (fun d e => by rw [hd] at e; cases e)⟩
def AbFrom (Ok : Obj -> Prop) (B : Nat) (I : Nat -> World -> Prop) : Prop :=
 ∀ s W W' row, I s W -> W.grownBy W' row -> (∀ r, row = some r -> B <= r /\ ∃ o : Obj, W.heap[r]? = some o /\ Ok o) -> I s W'
theorem AbFrom.own {Ok : Obj -> Prop} (hOk : ∀ o, o.isCells = false -> Ok o) {B : Nat} {I : Nat -> World -> Prop} (h : AbFrom Ok B I) : OwnFrom B I := fun s W W' row hs hg hr => h s W W' row hs hg fun r e => by
 obtain ⟨h1, o, h2, h3⟩ := hr r e
 exact ⟨h1, o, h2, hOk o h3⟩
theorem AbFrom.mono {Ok : Obj -> Prop} {B B' : Nat} (hb : B <= B') {I : Nat -> World -> Prop} (h : AbFrom Ok B I) : AbFrom Ok B' I := fun s W W' row hs hg hr => h s W W' row hs hg fun r e => by
 obtain ⟨h1, o, h2, h3⟩ := hr r e
 exact ⟨by omega, o, h2, h3⟩
theorem AbFrom.below {Ok : Obj -> Prop} {B : Nat} {I : Nat -> World -> Prop} (h : AbFrom Ok B I) {k : Nat} {W W' : World} (hi : I k W) (hb : Below W.heap.size W W') : I k W' :=
 h k W W' none hi ⟨hb.os, hb.tape, hb.output, hb.size, fun q hq _ => hb.block q hq⟩ (fun r e => by cases e)
end Go.Proofs.Ytjfclpicoamfaaa
/- A range over a function that may be left: the iterator's rounds are known by their numbers, what it hands in by what it reads as. Of no program. -/
namespace Go.Proofs.Ytjfclpicoamfaaa.Po
open Go.RowKit
structure Later (Ok : Obj -> Prop) (Pts : Value -> Nat -> Prop) (B : Nat) (us : List Value) (W W' : World) : Prop where
 os : W'.os = W.os
 tape : W'.tape = W.tape
 output : W'.output = W.output
 size : W.heap.size <= W'.heap.size
 block : ∀ k, k < W.heap.size -> W'.heap[k]? = W.heap[k]? \/ (B <= k /\ ∃ o : Obj, W.heap[k]? = some o /\ (o.isCells = false \/ (Ok o /\ ∀ u ∈ us, ¬ Pts u k)))
section
variable {Ok : Obj -> Prop} {Pts : Value -> Nat -> Prop}
theorem Later.mono {B B' : Nat} {us : List Value} {W W' : World} (h : Later Ok Pts B us W W') (hb : B' <= B) : Later Ok Pts B' us W W' := ⟨h.os, h.tape, h.output, h.size, fun k hk => by
 rcases h.block k hk with h | ⟨h1, h2⟩
 ·exact .inl h
 ·exact .inr ⟨by omega, h2⟩⟩
theorem later_below {B : Nat} {us : List Value} {W W' : World} (h : Below W.heap.size W W') : Later Ok Pts B us W W' := ⟨h.os, h.tape, h.output, h.size, fun k hk => .inl (h.block k hk)⟩
theorem later_grown {B : Nat} {us : List Value} {W W' : World} {row : Option Nat} (h : W.grownBy W' row) (hr : ∀ r, row = some r -> B <= r /\ ∃ o : Obj, W.heap[r]? = some o /\ (o.isCells = false \/ (Ok o /\ ∀ u ∈ us, ¬ Pts u r))) : Later Ok Pts B us W W' := ⟨h.os, h.tape, h.output, h.size, fun k hk => by
 by_cases e : some k = row
 ·exact .inr (hr k e.symm)
 ·exact .inl (h.block k hk e)⟩
end
def Abides (Ok : Obj -> Prop) (Pts : Value -> Nat -> Prop) (B : Nat) (J : List Value -> World -> Prop) : Prop := ∀ us W W', J us W -> Later Ok Pts B us W W' -> J us W'
def KeptIn (N : Nat) (W W' : World) : Prop := ∀ q, N <= q -> q < W.heap.size -> W'.heap[q]? = W.heap[q]?
theorem KeptIn.trans {N : Nat} {A B C : World} (h : KeptIn N A B) (k : KeptIn N B C) (hs : A.heap.size <= B.heap.size) : KeptIn N A C := fun q h1 h2 => (k q h1 (by omega)).trans (h q h1 h2)
theorem kept_put {N : Nat} (W : World) (l : Nat) (o : Obj) (h : l < N) : KeptIn N W (W.putObj l o) := fun q h1 h2 => (grownBy_putObj' W l o).block q h2 (fun e => by cases e; omega)
theorem kept_below {N : Nat} {W W' : World} (h : Below W.heap.size W W') : KeptIn N W W' := fun q _ h2 => h.block q h2
def SeqUp (Ok : Obj -> Prop) (Pts : Value -> Nat -> Prop) (P : Program) (g : Nat) (lb : Array Value) (Enc : Nat -> Value -> World -> Prop) (Kp : World -> World -> Prop) (K : Nat) (w : World) : Prop :=
 ∀ (l : Nat) (J Jx : List Value -> World -> Prop) (W : World), Below w.heap.size w W -> Abides Ok Pts W.heap.size J -> Abides Ok Pts W.heap.size Jx ->
  (∀ us u W0 W1, us.length < K -> J us W0 -> Below W0.heap.size W0 W1 -> Enc us.length u W1 -> YieldAt Fence.wide 0 P l #[u] W1 fun e W' => (e = .returned (.bool true) /\ J (us ++ [u]) W' /\ Kp W1 W' /\ KeepsFrom W.heap.size W1 W' /\ KeptIn W0.heap.size W1 W') \/ (e = .returned (.bool false) /\ Jx (us ++ [u]) W')) ->
  J [] W -> Calls P g (#[.func (.yield l) #[] #[]] ++ lb) W fun e W' => (∃ v, e = .returned v) /\ ((∃ us, us.length = K /\ J us W') \/ ∃ us, Jx us W')
def upPost (B N : Nat) (Kp : World -> World -> Prop) (I : List Value -> World -> Prop) (Ix : Code -> List Value -> World -> Prop) (k : List Value) (W : World) : Exit -> Act -> World -> Prop
 | .normal, _, W' => KeepsFrom B W W' /\ Kp W W' /\ KeptIn N W W' /\ I k W'
 | .ret, _, W' => KeepsFrom B W W' /\ Ix .ret k W'
 | .exit id, _, W' => KeepsFrom B W W' /\ Ix (.exit id) k W'
 | .goto t, _, W' => KeepsFrom B W W' /\ Ix (.goto t) k W'
 | .panic _, _, _ => False
 | .outgrown, _, _ => False
theorem range_up {Ok : Obj -> Prop} {Pts : Value -> Nat -> Prop} {P : Program} {n : Nat} {g : Operand} {ps : Array Tmp} {assign body : Code} {Q : Exit -> Act -> World -> Prop} {a : Act} {w : World} {gf : Nat} {lb : Array Value}
  (hg : a.eval g = .func (.func gf) #[] lb) (eg : ∀ args w, (callFunc gf args).run P w = .ok (.enter gf args) w)
  {Enc : Nat -> Value -> World -> Prop} {Kp : World -> World -> Prop} {K : Nat} {w0 : World} (hseq : SeqUp Ok Pts P gf lb Enc Kp K w0)
  (hKt : ∀ {A B C : World}, Kp A B -> Kp B C -> Kp A C) (hKb : ∀ (W : World) (l : Nat) (o o' : Obj), w.heap.size <= l -> W.heap[l]? = some o -> o.isCells = false -> o.isWalk = false -> Kp W (W.putObj l o'))
  (hb0 : Below w0.heap.size w0 w) (hps : ps.size = 1) (I : List Value -> World -> Prop) (Ix : Code -> List Value -> World -> Prop) (hI : Abides Ok Pts w.heap.size I) (hIx : ∀ c, Abides Ok Pts w.heap.size (Ix c)) (h0 : I [] w)
  (Ax : Nat -> List Value -> Value -> Act -> World -> Prop) (hAx : ∀ N k u a' (W : World) (l : Nat) (o o' : Obj), w.heap.size <= l -> W.heap[l]? = some o -> o.isCells = false -> Ax N k u a' W -> Ax N k u a' (W.putObj l o'))
  (hassign : ∀ (l : Nat) (k : List Value) (u : Value) (W0 W : World) (R : Act -> World -> Prop), k.length < K -> I k W0 -> Below W0.heap.size W0 W -> w.heap.size <= W0.heap.size -> I k W -> Enc k.length u W -> (∀ a' W', KeepsFrom w.heap.size W W' -> Kp W W' -> KeptIn W0.heap.size W W' -> I k W' -> Ax W0.heap.size k u a' W' -> R a' W') ->
   assign.wpIn (Fence.wide.inRound l) n P (Exit.then R (fun _ _ _ => False)) { tmps := (ps.zip #[u]).foldl (fun t (p, v) => t.setIfInBounds p v) a.tmps, defers := [] } W)
  (hbody : ∀ (l N : Nat) (k : List Value) (u : Value) (a' : Act) (W : World), k.length < K -> I k W -> Ax N k u a' W -> body.wpIn (Fence.wide.inRound l) n P (upPost w.heap.size N Kp I Ix (k ++ [u]) W) a' W)
  (hdone : ∀ (D : Nat) (k : List Value) (W : World), w.heap.size <= D -> k.length = K -> I k W -> W.heap[D]? = some (.deferred (some [])) -> Q .normal { a with defers := { target := .collected D, args := #[] } :: a.defers } W)
  (hstop : ∀ (D : Nat) (c : Code) (k : List Value) (W : World), w.heap.size <= D -> Ix c k W -> W.heap[D]? = some (.deferred (some [])) -> c.wpIn Fence.wide n P Q { a with defers := { target := .collected D, args := #[] } :: a.defers } W) :
  (Code.rangeFunc g ps assign body).wpIn Fence.wide n P Q a w := by
 have put : ∀ {J : List Value -> World -> Prop}, Abides Ok Pts w.heap.size J -> ∀ {k : List Value} {W : World} {l : Nat} {o : Obj} (o' : Obj), J k W -> w.heap.size <= l -> W.heap[l]? = some o -> o.isCells = false -> J k (W.putObj l o') := fun hJ k W l o o' hj hl ho hc =>
  hJ k W _ hj (later_grown (grownBy_putObj' W l o') fun r e => by cases e; exact ⟨hl, o, ho, .inl hc⟩)
 have alo : ∀ {J : List Value -> World -> Prop}, Abides Ok Pts w.heap.size J -> ∀ {k : List Value} {W : World} (o : Obj), J k W -> J k (W.alloc o) := fun hJ k W o hj => hJ k W _ hj (later_below ((Below.refl _ W).alloc (Nat.le_refl _) _))
 refine wpIn_rangeFunc fun fn hfn => ?_
 obtain ⟨rc, hrc⟩ : ∃ rc : LoopState -> Option Code -> Loop, rc = fun st pe => { state := st, pending := pe, fn, tmps := a.tmps, params := ps, assign, body, defers := w.heap.size } := ⟨_, rfl⟩
 obtain ⟨D, hD⟩ : ∃ D, w.heap.size = D := ⟨_, rfl⟩
 obtain ⟨W1, hW1⟩ : ∃ W1, (w.alloc (.deferred (some []))).alloc (.loop (rc .ready none)) = W1 := ⟨_, rfl⟩
 have hsz : W1.heap.size = D + 2 := by rw [<- hW1]; simp; omega
 have hl1 : W1.heap[D + 1]? = some (.loop (rc .ready none)) := by
  rw [<- hW1, <- hD]
  have := World.alloc_heap_new (w.alloc (.deferred (some []))) (.loop (rc .ready none))
  rwa [World.size_alloc] at this
 have hd1 : W1.heap[D]? = some (.deferred (some [])) := by
  rw [<- hW1, <- hD]
  exact (Below.heap_alloc _ _ _ (by simp)).trans (World.alloc_heap_new w _)
 have hi1 : I [] W1 := by rw [<- hW1]; exact alo hI _ (alo hI _ h0)
 have hb1 : Below w0.heap.size w0 W1 := by
  rw [<- hW1]
  exact hb0.trans ((((Below.refl _ w).alloc (Nat.le_refl _) _).alloc (by simp) _).mono hb0.size)
 have stay : ∀ {us : List Value} {X Y : World} {k : Nat} {o : Obj}, Later Ok Pts W1.heap.size us X Y -> k <= D + 1 -> X.heap[k]? = some o -> Y.heap[k]? = some o := fun {us X Y k o} hr hk ho => by
  rcases hr.block k (Array.getElem?_eq_some_iff.1 ho).1 with h | ⟨h, _⟩
  ·exact h.trans ho
  ·omega
 have hcall := hseq (D + 1) (fun k W => I k W /\ W.heap[D + 1]? = some (.loop (rc .ready none)) /\ W.heap[D]? = some (.deferred (some [])))
  (fun k W => ∃ c, Ix c k W /\ W.heap[D + 1]? = some (.loop (rc .done (some c))) /\ W.heap[D]? = some (.deferred (some []))) W1 hb1
  (fun k X Y hs hr => ⟨hI k X Y hs.1 (hr.mono (by omega)), stay hr (Nat.le_refl _) hs.2.1, stay hr (by omega) hs.2.2⟩)
  (fun k X Y hs hr => by
   obtain ⟨c, hc, hl, hd⟩ := hs
   exact ⟨c, hIx c k X Y hc (hr.mono (by omega)), stay hr (Nat.le_refl _) hl, stay hr (by omega) hd⟩)
  (fun k u W0 W hk hJ hbe hE => by
   obtain ⟨hi0, hl0, hd0⟩ := hJ
   have hl : W.heap[D + 1]? = some (.loop (rc .ready none)) := (hbe.block _ (Array.getElem?_eq_some_iff.1 hl0).1).trans hl0
   have hd : W.heap[D]? = some (.deferred (some [])) := (hbe.block _ (Array.getElem?_eq_some_iff.1 hd0).1).trans hd0
   have hi : I k W := hI k W0 W hi0 (later_below hbe)
   have hDN : D + 1 < W0.heap.size := (Array.getElem?_eq_some_iff.1 hl0).1
   have hy := run_yield (P := P) (args := #[u]) hl (by rw [hrc]; exact hps.symm)
   rw [hrc] at hy
   refine ⟨fn, _, assign, body, hy, round_any rfl (roundIn_of_wpIn (n := n) hfn (hassign _ k u W0 W _ hk hi0 hbe (by omega) hi hE fun a' Wa hfa hka hna hia hax => ?_))⟩
   clear hy
   have hla := hfa.same _ _ (by omega) hl rfl
   have hda := hfa.same _ _ (by omega) hd rfl
   have hlt : D + 1 < Wa.heap.size := (Array.getElem?_eq_some_iff.1 hla).1
   refine ⟨_, run_beginRound hla (by rw [hrc]), ?_⟩
   obtain ⟨W2, hW2⟩ : ∃ W2, Wa.putObj (D + 1) (.loop { rc .ready none with state := .busy }) = W2 := ⟨_, rfl⟩
   have hl2 : W2.heap[D + 1]? = some (.loop { rc .ready none with state := .busy }) := by rw [<- hW2]; exact World.putObj_heap_same hlt
   have hd2 : W2.heap[D]? = some (.deferred (some [])) := by rw [<- hW2]; exact (World.putObj_heap_other (by omega)).trans hda
   have hi2 : I k W2 := by rw [<- hW2]; exact put hI _ hia (by omega) hla rfl
   have hax2 : Ax W0.heap.size k u a' W2 := by rw [<- hW2]; exact hAx _ k u a' Wa (D + 1) _ _ (by omega) hla rfl hax
   have hn2 : KeptIn W0.heap.size W W2 := by
    rw [<- hW2]
    exact hna.trans (kept_put Wa (D + 1) _ hDN) hfa.size
   have hk2 : Kp Wa W2 := by rw [<- hW2]; exact hKb Wa (D + 1) _ _ (by omega) hla rfl rfl
   have hf2 : KeepsFrom W1.heap.size W W2 := by
    rw [<- hW2]
    exact KeepsFrom.trans ⟨hfa.size, fun q o hq h h' => hfa.same q o (by omega) h h'⟩ (KeepsFrom.of_grownBy (grownBy_putObj' Wa (D + 1) _) (fun j e => by cases e; omega))
   rw [hW2]
   refine wpIn_mono (hbody _ W0.heap.size k u a' W2 hk hi2 hax2) ?_
   have fin : ∀ (jump : Option Code) (W3 : World), KeepsFrom w.heap.size W2 W3 -> (Instr.endRound (D + 1) jump).run P W3 = .ok (.bool jump.isNone) (W3.putObj (D + 1) (.loop (rc (if jump.isNone then .ready else .done) jump))) /\ W3.heap[D + 1]? = some (.loop { rc .ready none with state := .busy }) /\
     (W3.putObj (D + 1) (.loop (rc (if jump.isNone then .ready else .done) jump))).heap[D + 1]? = some (.loop (rc (if jump.isNone then .ready else .done) jump)) /\ (W3.putObj (D + 1) (.loop (rc (if jump.isNone then .ready else .done) jump))).heap[D]? = some (.deferred (some [])) := fun jump W3 hf3 => by
    have hl3 := hf3.same _ _ (by omega) hl2 rfl
    have hd3 := hf3.same _ _ (by omega) hd2 rfl
    have hlt3 : D + 1 < W3.heap.size := (Array.getElem?_eq_some_iff.1 hl3).1
    have hend := run_endRound (P := P) jump hl3
    have hrec : (Obj.loop { { rc .ready none with state := .busy } with state := if jump.isNone then .ready else .done, pending := jump }) = .loop (rc (if jump.isNone then .ready else .done) jump) := by rw [hrc]
    rw [hrec] at hend
    exact ⟨hend, hl3, World.putObj_heap_same hlt3, (World.putObj_heap_other (by omega)).trans hd3⟩
   rintro e a3 W3 hp
   cases e with
   | normal =>
    obtain ⟨hf3, hk3, hn3, hi3⟩ := hp
    obtain ⟨hend, hl3, hl4, hd4⟩ := fin none W3 hf3
    refine ⟨_, _, hend, .inl ⟨rfl, ⟨put hI _ hi3 (by omega) hl3 rfl, hl4, hd4⟩, hKt hka (hKt hk2 (hKt hk3 (hKb W3 (D + 1) _ _ (by omega) hl3 rfl rfl))), ?_, (hn2.trans hn3 hf2.size).trans (kept_put W3 (D + 1) _ hDN) (Nat.le_trans hf2.size hf3.size)⟩⟩
    exact (hf2.trans ⟨hf3.size, fun q o hq h h' => hf3.same q o (by omega) h h'⟩).trans (KeepsFrom.of_grownBy (grownBy_putObj' W3 (D + 1) _) (fun j e => by cases e; omega))
   | ret =>
    obtain ⟨hf3, hi3⟩ := hp
    obtain ⟨hend, hl3, hl4, hd4⟩ := fin (some .ret) W3 hf3
    exact ⟨_, _, hend, .inr ⟨rfl, .ret, put (hIx _) _ hi3 (by omega) hl3 rfl, hl4, hd4⟩⟩
   | exit id =>
    obtain ⟨hf3, hi3⟩ := hp
    obtain ⟨hend, hl3, hl4, hd4⟩ := fin (some (.exit id)) W3 hf3
    exact ⟨_, _, hend, .inr ⟨rfl, .exit id, put (hIx _) _ hi3 (by omega) hl3 rfl, hl4, hd4⟩⟩
   | goto t =>
    obtain ⟨hf3, hi3⟩ := hp
    obtain ⟨hend, hl3, hl4, hd4⟩ := fin (some (.goto t)) W3 hf3
    exact ⟨_, _, hend, .inr ⟨rfl, .goto t, put (hIx _) _ hi3 (by omega) hl3 rfl, hl4, hd4⟩⟩
   | panic _ => exact hp.elim
   | outgrown => exact hp.elim)
  ⟨hi1, hl1, hd1⟩
 refine ⟨D + 1, [{ target := .collected D, args := #[] }], W1, { target := .fn (.func gf) lb, args := #[.func (.yield (D + 1)) #[] #[]] }, W1, gf, #[.func (.yield (D + 1)) #[] #[]] ++ lb, W1, ?_, ?_, fun _ _ => trivial, ?_, (fun h => by cases h), ?_⟩
 ·rw [<- hW1, hrc, <- hD]
  exact run_enterLoop_outer _ _ _ _ _
 ·simp only [resolve, hg]
  simp [go_sem]
 ·simp [invoke, go_sem, eg]
 ·refine (callsIn_wide.2 hcall).mono ?_
  rintro e W2 ⟨⟨v, rfl⟩, (⟨k, hk, hi, hl, hd⟩ | ⟨k, c, hi, hl, hd⟩)⟩
  ·have hend := run_endLoop (P := P) hl (by rw [hrc]; simp)
   have hp : (rc .ready none).pending = none := by rw [hrc]
   rw [hp] at hend
   exact ⟨none, _, hend, hdone D k _ (by omega) hk (put hI _ hi (by omega) hl rfl) ((World.putObj_heap_other (by omega)).trans hd)⟩
  ·have hend := run_endLoop (P := P) hl (by rw [hrc]; simp)
   have hp : (rc .done (some c)).pending = some c := by rw [hrc]
   rw [hp] at hend
   exact ⟨some c, _, hend, hstop D c k _ (by omega) (put (hIx c) _ hi (by omega) hl rfl) ((World.putObj_heap_other (by omega)).trans hd)⟩
end Go.Proofs.Ytjfclpicoamfaaa.Po
