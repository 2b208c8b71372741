/- What an iterator over entries hands in, and what a round keeps. -/
import Derived.Test.YtjfclpicoamfaaaZDgRead
import Derived.Test.YtjfclpicoamfaaaZTRange

namespace Go.Proofs.Ytjfclpicoamfaaa.Di
open Go.RowKit
open Fr (bs)
open Po (Later SeqUp KeptIn Abides later_below kept_below)
def OkD (_ : Obj) : Prop := False
def PtsD (_ : Value) (_ : Nat) : Prop := False
def KpT (S : List TypeId) (A B : World) : Prop := A.heap.size <= B.heap.size /\ ∀ (k : Nat) (cs : Array Value) (t : TypeId) (s : Nat × Nat), t ∈ S -> A.heap[k]? = some (Obj.cells cs t s) -> B.heap[k]? = some (Obj.cells cs t s)
theorem kpt_t {S : List TypeId} {A B C : World} (h : KpT S A B) (k : KpT S B C) : KpT S A C := ⟨Nat.le_trans h.1 k.1, fun b cs t s h1 hb => k.2 b cs t s h1 (h.2 b cs t s h1 hb)⟩
theorem kpt_b {S : List TypeId} {w : World} (W : World) (l : Nat) (o o' : Obj) (_hl : w.heap.size <= l) (h : W.heap[l]? = some o) (h1 : o.isCells = false) (_h2 : o.isWalk = false) : KpT S W (W.putObj l o') :=
 ⟨(grownBy_putObj' W l o').size, fun b cs t s _ hb => by
  rw [(grownBy_putObj' W l o').block b (Array.getElem?_eq_some_iff.1 hb).1 (fun e => by cases e; rw [hb] at h; cases h; cases h1)]
  exact hb⟩
theorem kpt_below {S : List TypeId} {A B : World} (h : Below A.heap.size A B) : KpT S A B := ⟨h.size, fun _ _ _ _ _ hb => (h.block _ (Array.getElem?_eq_some_iff.1 hb).1).trans hb⟩
def EncD (F : List En) (k : Nat) (u : Value) (_ : World) : Prop := ∃ h : k < F.length, u = .agg #[.string F[k].t, .string F[k].v]
theorem drop_consD {F : List En} {i : Nat} {p : En} {R : List En} (h : F.drop i = p :: R) : ∃ hi : i < F.length, F[i] = p /\ F.drop (i + 1) = R := by
 have hi : i < F.length := by
  have := congrArg List.length h
  rw [List.length_drop, List.length_cons] at this
  omega
 rw [List.drop_eq_getElem_cons hi] at h
 injection h with h1 h2
 exact ⟨hi, h1, h2⟩
structure FD (J : List Value -> World -> Prop) (t : ByteArray) (F : List En) (Bt : Nat) (M : Nat) (V : World) (us : List Value) (n i : Nat) (p : ByteArray) (q : List UInt8) : Prop where
 bd : V.heap[Bt]? = some (.cells #[.string t] 9 (0, 0))
 j : J us V
 rest : F.drop us.length = goL t n i p.data.toList q
 le : us.length <= F.length
 len : p.size + q.length <= M
theorem FD.drewN {J : List Value -> World -> Prop} {t : ByteArray} {F : List En} {Bt M B : Nat} {V : World} {us : List Value} {n i : Nat} {p : ByteArray} {q : List UInt8} (h : FD J t F Bt M V us n i p q) (hA : Po.Abides OkD PtsD B J) (nq : Nat) : FD J t F Bt M (V.drewN nq) us n i p q :=
 ⟨h.bd, hA us V _ h.j (later_below (W := V) (W' := V.drewN nq) ⟨rfl, rfl, rfl, Nat.le_refl _, fun _ _ => rfl⟩), h.rest, h.le, h.len⟩
end Go.Proofs.Ytjfclpicoamfaaa.Di
