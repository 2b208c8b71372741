/- Postings taken one behind the other into a row of one's own: what a round keeps. Of no program. -/
import Derived.Test.YtjcajeilhcjneaaZPoEnc
import Derived.Test.YtjcajeilhcjneaaZPoUnpW
import Derived.RangeFuncBox
import Derived.Shelf.Abstract
import Derived.Shelf.RegionOpen
import Derived.OwnWalkIn
import Derived.TacticsInMore
import Derived.LoopNIn
import Derived.LoopIn

namespace Go.Proofs.Ytjcajeilhcjneaa.Po
open Go.RowKit Go.Shelf
open Fr (bs)
theorem kpp_t {A B C : World} (h : KpP A B) (k : KpP B C) : KpP A C := ⟨Nat.le_trans h.1 k.1, fun b cs t s h1 h2 hb => k.2 b cs t s h1 h2 (h.2 b cs t s h1 h2 hb)⟩
theorem kpp_b {w : World} (W : World) (l : Nat) (o o' : Obj) (_hl : w.heap.size <= l) (h : W.heap[l]? = some o) (h1 : o.isCells = false) (_h2 : o.isWalk = false) : KpP W (W.putObj l o') :=
 ⟨(grownBy_putObj' W l o').size, fun b cs t s _ _ hb => by
  rw [(grownBy_putObj' W l o').block b (Array.getElem?_eq_some_iff.1 hb).1 (fun e => by cases e; rw [hb] at h; cases h; cases h1)]
  exact hb⟩
theorem kpp_below {A B : World} (h : Below A.heap.size A B) : KpP A B := ⟨h.size, fun _ _ _ _ _ _ hb => (h.block _ (Array.getElem?_eq_some_iff.1 hb).1).trans hb⟩
theorem SlT.kept {w w' : World} {v : Value} {L : List Int} (h : SlT w v L) (hb : ∀ (k : Nat) (cs : Array Value) (s : Nat × Nat), w.heap[k]? = some (.cells cs 3 s) -> w'.heap[k]? = some (.cells cs 3 s)) : SlT w' v L := by
 obtain ⟨ao, c, hv, hl, hc⟩ := h
 refine ⟨ao, c, hv, hl, fun j hj => ?_⟩
 obtain ⟨g, off, cs, s, e, hg, h1⟩ := hc j hj
 exact ⟨g, off, cs, s, e, hb g cs s hg, h1⟩
def SlQ (B : Nat) (w : World) (v : Value) (L : List Pg) : Prop := ∃ ao c, v = .slice ao L.length c /\ L.length <= c /\ ∀ j (hj : j < L.length), ∃ g off ve, ao = some ⟨g, off, none⟩ /\ B <= g /\ g < w.heap.size /\ w.cell? ⟨g, off + j * 2, none⟩ = some (.int .i64 L[j].doc) /\ w.cell? ⟨g, off + j * 2 + 1, none⟩ = some ve /\ SlT w ve L[j].pos
theorem SlQ.sl {B : Nat} {w : World} {v : Value} {L : List Pg} (h : SlQ B w v L) : SlP w v L := by
 obtain ⟨ao, c, hv, hl, hc⟩ := h
 refine ⟨ao, c, hv, hl, fun j hj => ?_⟩
 obtain ⟨g, off, ve, e, -, hg, h1, h2, h3⟩ := hc j hj
 exact ⟨g, off, ve, e, hg, h1, h2, h3.sl⟩
theorem SlI.kept {w w' : World} {v : Value} {L : List Int} (h : SlI w v L) (hs : w.heap.size <= w'.heap.size) (hb : ∀ a u, w.cell? a = some u -> w'.cell? a = some u) : SlI w' v L := by
 obtain ⟨ao, c, hv, hl, hc⟩ := h
 refine ⟨ao, c, hv, hl, fun j hj => ?_⟩
 obtain ⟨g, off, e, hg, h1⟩ := hc j hj
 exact ⟨g, off, e, Nat.lt_of_lt_of_le hg hs, hb _ _ h1⟩
theorem SlQ.put {B : Nat} {w : World} {v : Value} {L : List Pg} (h : SlQ B w v L) {l : Nat} {o o' : Obj} (hl : w.heap[l]? = some o) (hc : o.isCells = false) : SlQ B (w.putObj l o') v L := by
 have hs := (grownBy_putObj' w l o').size
 have hb : ∀ a u, w.cell? a = some u -> (w.putObj l o').cell? a = some u := fun a u e => cell_kept e (grownBy_putObj' w l o') (fun r hr => by cases hr; exact ⟨o, hl, hc⟩)
 obtain ⟨ao, c, hv, hlc, hcc⟩ := h
 refine ⟨ao, c, hv, hlc, fun j hj => ?_⟩
 obtain ⟨g, off, ve, e, hbg, hg, h1, h2, h3⟩ := hcc j hj
 exact ⟨g, off, ve, e, hbg, Nat.lt_of_lt_of_le hg hs, hb _ _ h1, hb _ _ h2, h3.kept fun k cs s hk => by
  rw [(grownBy_putObj' w l o').block k (Array.getElem?_eq_some_iff.1 hk).1 (fun e => by cases e; rw [hk] at hl; cases hl; cases hc)]
  exact hk⟩
theorem kept_app {N B : Nat} {V w1 : World} {tmp : Obj} {v v' : Value} (hgrow : (V.alloc tmp).grownBy w1 v.ownBlock) (hB : B < N) (hv : ∀ q, v.ownBlock = some q -> q < N) : KeptIn N V (w1.setCell ⟨B, 0, none⟩ v') := fun q h1 h2 => by
 have e1 : (V.alloc tmp).heap[q]? = V.heap[q]? := ((Below.refl _ V).alloc (Nat.le_refl _) tmp).block q h2
 have h3 : q < (V.alloc tmp).heap.size := by rw [World.size_alloc]; omega
 have h4 := hgrow.size
 rw [(grownBy_setCell' w1 B v').block q (by omega) (fun e => by cases e; omega), hgrow.block q h3 (fun e => by have := hv q e.symm; omega)]
 exact e1
theorem SlP.put {w : World} {v : Value} {L : List Pg} (h : SlP w v L) {l : Nat} {o o' : Obj} (hl : w.heap[l]? = some o) (hc : o.isCells = false) : SlP (w.putObj l o') v L := by
 have hs := (grownBy_putObj' w l o').size
 have hb : ∀ a u, w.cell? a = some u -> (w.putObj l o').cell? a = some u := fun a u e => cell_kept e (grownBy_putObj' w l o') (fun r hr => by cases hr; exact ⟨o, hl, hc⟩)
 obtain ⟨ao, c, hv, hlc, hcc⟩ := h
 refine ⟨ao, c, hv, hlc, fun j hj => ?_⟩
 obtain ⟨g, off, ve, e, hg, h1, h2, h3⟩ := hcc j hj
 exact ⟨g, off, ve, e, Nat.lt_of_lt_of_le hg hs, hb _ _ h1, hb _ _ h2, h3.kept hs hb⟩
end Go.Proofs.Ytjcajeilhcjneaa.Po
