/- What an iterator over postings hands in, and what a round keeps. -/
import Derived.Test.YtjcajeilhcjneaaZPoHelp
import Derived.Test.YtjcajeilhcjneaaZTRange
import Derived.Test.YtjcajeilhcjneaaZPoOne
import Derived.Test.YtjcajeilhcjneaaZPoUnpW
import Derived.Laws.Rows

namespace Go.Proofs.Ytjcajeilhcjneaa.Po
open Go.RowKit
open Fr (bs)
def SlT (w : World) (v : Value) (L : List Int) : Prop := ∃ ao c, v = .slice ao L.length c /\ L.length <= c /\ ∀ j (hj : j < L.length), ∃ g off cs s, ao = some ⟨g, off, none⟩ /\ w.heap[g]? = some (.cells cs 3 s) /\ cs[off + j]? = some (.int .i64 L[j])
theorem SlT.sl {w : World} {v : Value} {L : List Int} (h : SlT w v L) : SlI w v L := by
 obtain ⟨ao, c, hv, hl, hc⟩ := h
 refine ⟨ao, c, hv, hl, fun j hj => ?_⟩
 obtain ⟨g, off, cs, s, e, hg, h1⟩ := hc j hj
 exact ⟨g, off, e, (Array.getElem?_eq_some_iff.1 hg).1, by rw [cell_atP hg]; exact h1⟩
def PtsP (u : Value) (k : Nat) : Prop := ∃ d a m c, u = .agg #[d, .slice (some a) m c] /\ a.block = k
def OkP (o : Obj) : Prop := ∃ cs t s, t ≠ 37 /\ t ≠ 22 /\ o = .cells cs t s
def EncP (F : List Pg) (k : Nat) (u : Value) (W : World) : Prop := ∃ h : k < F.length, ∃ ve, u = .agg #[.int .i64 F[k].doc, ve] /\ SlT W ve F[k].pos
def KpP (A B : World) : Prop := A.heap.size <= B.heap.size /\ ∀ (k : Nat) (cs : Array Value) (t : TypeId) (s : Nat × Nat), t ≠ 37 -> t ≠ 22 -> A.heap[k]? = some (Obj.cells cs t s) -> B.heap[k]? = some (Obj.cells cs t s)
def fromL (L : List Pg) (doc : Int) : List Pg := L.filter fun p => decide (doc <= p.doc)
end Go.Proofs.Ytjcajeilhcjneaa.Po
/- How the program reads postings' bytes, in plain lists: what it makes of any bytes, and of a right list's. -/
namespace Go.Proofs.Ytjcajeilhcjneaa.Po
open Go.RowKit
open Fr (varL rdV rdV_varL rdV_some bs)
def fNum (l : List UInt8) : Nat × List UInt8 := match rdV l with
 | some (v, r) => if v <= 65536 then (v, r) else (0, [])
 | none => (0, [])
def fGaps : Nat -> Int -> List UInt8 -> List Int × List UInt8
 | 0, _, l => ([], l)
 | _ + 1, _, [] => ([], [])
 | n + 1, a, b :: t => ((a + (fNum (b :: t)).1) :: (fGaps n (a + (fNum (b :: t)).1) (fNum (b :: t)).2).1, (fGaps n (a + (fNum (b :: t)).1) (fNum (b :: t)).2).2)
def fOne (a : Int) (l : List UInt8) : Pg × List UInt8 :=
 (⟨a + (fNum l).1, (fGaps (fNum (fNum l).2).1 (-1) (fNum (fNum l).2).2).1⟩, (fGaps (fNum (fNum l).2).1 (-1) (fNum (fNum l).2).2).2)
def fSkips (doc : Int) : Nat -> Int -> Int -> Nat -> List UInt8 -> Int × Nat × List UInt8
 | 0, la, _, ov, l => (la, ov, l)
 | n + 1, la, en, ov, l => if en + (fNum l).1 < doc then fSkips doc n (en + (fNum l).1) (en + (fNum l).1) (ov + (fNum (fNum l).2).1) (fNum (fNum l).2).2 else fSkips doc n la (en + (fNum l).1) ov (fNum (fNum l).2).2
def fLeap (doc : Int) (l : List UInt8) : Int × List UInt8 :=
 ((fSkips doc (((fNum l).1 - 1) / 8) (-1) (-1) 0 (fNum l).2).1, (fSkips doc (((fNum l).1 - 1) / 8) (-1) (-1) 0 (fNum l).2).2.2.drop (min (fSkips doc (((fNum l).1 - 1) / 8) (-1) (-1) 0 (fNum l).2).2.1 (fSkips doc (((fNum l).1 - 1) / 8) (-1) (-1) 0 (fNum l).2).2.2.length))
def fAll (doc : Int) : Nat -> Int -> List UInt8 -> List Pg
 | 0, _, _ => []
 | _ + 1, _, [] => []
 | n + 1, a, b :: t => (if doc <= (fOne a (b :: t)).1.doc then [(fOne a (b :: t)).1] else []) ++ fAll doc n (fOne a (b :: t)).1.doc (fOne a (b :: t)).2
def fFrom (doc : Int) (l : List UInt8) : List Pg := fAll doc (fLeap doc l).2.length (fLeap doc l).1 (fLeap doc l).2
theorem fNum_le (l : List UInt8) : (fNum l).1 <= 65536 /\ (fNum l).2.length <= l.length /\ (l ≠ [] -> (fNum l).2.length < l.length) := by
 unfold fNum
 cases h : rdV l with
 | none => exact ⟨Nat.zero_le _, Nat.zero_le _, fun h => List.length_pos_iff.2 h⟩
 | some p =>
  obtain ⟨v, r⟩ := p
  obtain ⟨_, _, h3, h4, _, _, h7⟩ := rdV_some h
  have hr : r.length < l.length := by rw [h7, List.length_drop]; omega
  dsimp only
  split
  ·exact ⟨by assumption, by dsimp only; omega, fun _ => hr⟩
  ·exact ⟨Nat.zero_le _, Nat.zero_le _, fun h => List.length_pos_iff.2 h⟩
theorem fNum_varL (v : Nat) (s : List UInt8) (h : v <= 65536) : fNum (varL v ++ s) = (v, s) := by
 unfold fNum
 rw [rdV_varL v s (by omega)]
 dsimp only
 rw [if_pos h]
theorem fGaps_len : ∀ (n : Nat) (a : Int) (l : List UInt8), (fGaps n a l).2.length + (fGaps n a l).1.length <= l.length
 | 0, _, l => by simp [fGaps]
 | _ + 1, _, [] => by simp [fGaps]
 | n + 1, a, b :: t => by
  have h1 := fGaps_len n (a + (fNum (b :: t)).1) (fNum (b :: t)).2
  have h2 := (fNum_le (b :: t)).2.2 (by simp)
  rw [fGaps]
  dsimp only
  rw [List.length_cons]
  omega
theorem fOne_len (a : Int) {l : List UInt8} (h : l ≠ []) : (fOne a l).2.length + (fOne a l).1.pos.length < l.length := by
 have h1 := (fNum_le l).2.2 h
 have h2 := (fNum_le (fNum l).2).2.1
 have h3 := fGaps_len (fNum (fNum l).2).1 (-1) (fNum (fNum l).2).2
 unfold fOne
 dsimp only
 omega
theorem fAll_mem {doc : Int} : ∀ (n : Nat) (a : Int) (l : List UInt8), (∀ p ∈ fAll doc n a l, p.pos.length <= l.length) /\ (fAll doc n a l).length <= l.length
 | 0, _, _ => ⟨fun p h => by simp [fAll] at h, by simp [fAll]⟩
 | _ + 1, _, [] => ⟨fun p h => by simp [fAll] at h, by simp [fAll]⟩
 | n + 1, a, b :: t => by
  obtain ⟨h1, h2⟩ := fAll_mem (doc := doc) n (fOne a (b :: t)).1.doc (fOne a (b :: t)).2
  have h3 := fOne_len a (l := b :: t) (by simp)
  rw [fAll]
  refine ⟨fun p hp => ?_, ?_⟩
  ·rcases List.mem_append.1 hp with hp | hp
   ·split at hp
    ·rw [List.mem_singleton.1 hp]; omega
    ·cases hp
   ·have := h1 p hp; omega
  ·rw [List.length_append]
   split
   ·simp only [List.length_singleton]; omega
   ·simp only [List.length_nil]; omega
theorem varL_ne (v : Nat) : varL v ≠ [] := by
 rw [varL]; split <;> simp
theorem fGaps_back : ∀ (a : Int) (l : List Int) (s : List UInt8), -1 <= a -> Goes 2000 a l -> fGaps l.length a (gapL a l ++ s) = (l, s)
 | _, [], s, _, _ => rfl
 | a, x :: r, s, h0, h => by
  have e : a + ((x - a).toNat : Int) = x := by have := h.1; omega
  rw [List.length_cons, gapL, List.append_assoc]
  obtain ⟨b, t, hbt⟩ : ∃ b t, varL (x - a).toNat ++ (gapL x r ++ s) = b :: t := by
   cases hc : varL (x - a).toNat with
   | nil => exact absurd hc (varL_ne _)
   | cons b t => exact ⟨b, _, rfl⟩
  have hn := fNum_varL (x - a).toNat (gapL x r ++ s) (by have := h.1; have := h.2.1; omega)
  rw [hbt] at hn ⊢
  rw [fGaps, hn]
  dsimp only
  rw [e, fGaps_back x r s (by have := h.1; omega) h.2.2]
theorem fOne_back (a : Int) (p : Pg) (s : List UInt8) (h0 : -1 <= a) (h1 : a < p.doc) (h2 : p.doc < 500) (h3 : Rise p.pos 2000) : fOne a (oneP a p ++ s) = (p, s) := by
 have e : a + ((p.doc - a).toNat : Int) = p.doc := by omega
 have hl := rise_len h3 (by omega)
 unfold fOne oneP
 rw [List.append_assoc, fNum_varL _ _ (by omega)]
 dsimp only
 rw [List.append_assoc, fNum_varL _ _ (by omega)]
 dsimp only
 rw [fGaps_back (-1) p.pos s (by omega) (rise_goes h3), e]
theorem oneP_ne (a : Int) (p : Pg) : oneP a p ≠ [] := by
 unfold oneP
 intro h
 exact varL_ne _ (List.append_eq_nil_iff.1 h).1
theorem fAll_back (doc : Int) : ∀ (n : Nat) (a : Int) (L : List Pg), (allP a L).length <= n -> -1 <= a -> ChainP a L -> fAll doc n a (allP a L) = fromL L doc
 | n, _, [], _, _, _ => by cases n <;> rfl
 | n, a, p :: r, hn, h0, h => by
  obtain ⟨h1, h2, h3, _, h5⟩ := h
  obtain ⟨b, t, hbt⟩ : ∃ b t, oneP a p ++ allP p.doc r = b :: t := by
   cases hc : oneP a p with
   | nil => exact absurd hc (oneP_ne _ _)
   | cons b t => exact ⟨b, _, rfl⟩
  have hn1 := fOne_back a p (allP p.doc r) h0 h1 h2 h3
  have hlen : (allP p.doc r).length < (b :: t).length := by
   rw [<- hbt, List.length_append]
   have := List.length_pos_iff.2 (oneP_ne a p)
   omega
  rw [allP] at hn ⊢
  rw [hbt] at hn hn1 ⊢
  cases n with
  | zero => simp at hn
  | succ n =>
   rw [fAll, hn1]
   dsimp only
   rw [fAll_back doc n p.doc r (by simp at hn hlen; omega) (by omega) h5]
   unfold fromL
   by_cases hd : doc <= p.doc
   ·rw [if_pos hd, List.filter_cons_of_pos (by simpa using hd)]; rfl
   ·rw [if_neg hd, List.filter_cons_of_neg (by simpa using hd)]; rfl
theorem fSkips_stay (doc la : Int) (ov : Nat) : ∀ (k : Nat) (a : Int) (L : List Pg) (s : List UInt8), L.length <= k -> -1 <= a -> a < 500 -> doc <= a -> ChainP a L -> fSkips doc ((L.length - 1) / 8) la a ov (skipP a L ++ s) = (la, ov, s) := by
 intro k
 induction k with
 | zero =>
  intro a L s hk _ _ _ _
  obtain rfl := List.length_eq_zero_iff.1 (show L.length = 0 by omega)
  rw [skipP, if_neg (by simp)]
  rfl
 | succ k ih =>
  intro a L s hk h0 h1 hd h
  rw [skipP]
  by_cases h8 : 8 < L.length
  ·rw [if_pos h8]
   have ht := chain_take 8 a L h
   have hdr := chain_drop 8 a L h
   obtain ⟨g1, g2⟩ := last_ge a _ ht
   have g2 := g2 h1
   have hl := allP_len a _ h0 ht
   rw [List.length_take] at hl
   have e : (L.length - 1) / 8 = ((L.drop 8).length - 1) / 8 + 1 := by rw [List.length_drop]; omega
   have e1 : a + ((lastD a (L.take 8) - a).toNat : Int) = lastD a (L.take 8) := by omega
   rw [e, fSkips, List.append_assoc, fNum_varL _ _ (by omega)]
   dsimp only
   rw [List.append_assoc, fNum_varL _ _ (by omega)]
   dsimp only
   rw [e1, if_neg (by omega)]
   exact ih _ _ s (by rw [List.length_drop]; omega) (by omega) g2 (by omega) hdr
  ·rw [if_neg h8, show (L.length - 1) / 8 = 0 by omega]
   rfl
theorem fSkips_go (doc : Int) : ∀ (k : Nat) (a : Int) (ov : Nat) (L : List Pg) (s : List UInt8), L.length <= k -> -1 <= a -> a < 500 -> ChainP a L ->
  ∃ j, (j <= L.length) /\ (∀ p ∈ L.take j, p.doc < doc) /\ fSkips doc ((L.length - 1) / 8) a a ov (skipP a L ++ s) = (lastD a (L.take j), ov + (allP a (L.take j)).length, s) := by
 intro k
 induction k with
 | zero =>
  intro a ov L s hk _ _ _
  obtain rfl := List.length_eq_zero_iff.1 (show L.length = 0 by omega)
  refine ⟨0, Nat.le_refl _, by simp, ?_⟩
  rw [skipP, if_neg (by simp)]
  rfl
 | succ k ih =>
  intro a ov L s hk h0 h1 h
  by_cases h8 : 8 < L.length
  ·have ht := chain_take 8 a L h
   have hdr := chain_drop 8 a L h
   obtain ⟨g1, g2⟩ := last_ge a _ ht
   have g2 := g2 h1
   have hl := allP_len a _ h0 ht
   rw [List.length_take] at hl
   have e : (L.length - 1) / 8 = ((L.drop 8).length - 1) / 8 + 1 := by rw [List.length_drop]; omega
   have e1 : a + ((lastD a (L.take 8) - a).toNat : Int) = lastD a (L.take 8) := by omega
   rw [skipP, if_pos h8, e, fSkips, List.append_assoc, fNum_varL _ _ (by omega)]
   dsimp only
   rw [List.append_assoc, fNum_varL _ _ (by omega)]
   dsimp only
   rw [e1]
   by_cases hlt : lastD a (L.take 8) < doc
   ·rw [if_pos hlt]
    obtain ⟨j, hj1, hj2, hj3⟩ := ih (lastD a (L.take 8)) (ov + (allP a (L.take 8)).length) (L.drop 8) s (by rw [List.length_drop]; omega) (by omega) g2 hdr
    rw [List.length_drop] at hj1
    have hall : ∀ (b : Int) (M : List Pg), ChainP b M -> ∀ p ∈ M, p.doc <= lastD b M := by
     intro b M
     induction M generalizing b with
     | nil => intro _ p hp; cases hp
     | cons x r ih2 =>
      intro hc p hp
      rcases List.mem_cons.1 hp with rfl | hp
      ·exact (last_ge p.doc r hc.2.2.2.2).1
      ·exact ih2 x.doc hc.2.2.2.2 p hp
    refine ⟨8 + j, by omega, fun p hp => ?_, ?_⟩
    ·rw [List.take_add] at hp
     rcases List.mem_append.1 hp with hp | hp
     ·have := hall a _ ht p hp; omega
     ·exact hj2 p hp
    ·rw [hj3, List.take_add, lastD_app, allP_app, List.length_append, Nat.add_assoc]
   ·rw [if_neg hlt]
    refine ⟨0, Nat.zero_le _, by simp, ?_⟩
    rw [fSkips_stay doc a ov _ _ _ s (Nat.le_refl _) (by omega) g2 (by omega) hdr]
    rfl
  ·refine ⟨0, Nat.zero_le _, by simp, ?_⟩
   rw [skipP, if_neg h8, show (L.length - 1) / 8 = 0 by omega]
   rfl
theorem fFrom_back {L : List Pg} (hR : RightG L) (doc : Int) : fFrom doc (bytesP L) = fromL L doc := by
 have hl := right_len hR
 have hc := right_chain hR
 obtain ⟨j, h1, h2, h3⟩ := fSkips_go doc _ (-1) 0 L (allP (-1) L) (Nat.le_refl _) (by omega) (by omega) hc
 have e : allP (-1) L = allP (-1) (L.take j) ++ allP (lastD (-1) (L.take j)) (L.drop j) := by
  conv => lhs; rw [<- List.take_append_drop j L]
  rw [allP_app]
 have hlp : fLeap doc (bytesP L) = (lastD (-1) (L.take j), allP (lastD (-1) (L.take j)) (L.drop j)) := by
  unfold fLeap bytesP
  rw [fNum_varL _ _ (by omega)]
  dsimp only
  rw [h3]
  dsimp only
  rw [Nat.zero_add, Nat.min_eq_left (by rw [e, List.length_append]; omega), e, List.drop_left]
 have hlt := last_take hc j
 have h4 := fAll_back doc (allP (lastD (-1) (L.take j)) (L.drop j)).length (lastD (-1) (L.take j)) (L.drop j) (Nat.le_refl _) hlt.1 (chain_drop j (-1) L hc)
 unfold fFrom
 rw [hlp]
 dsimp only
 rw [h4]
 unfold fromL
 conv => rhs; rw [<- List.take_append_drop j L]
 rw [List.filter_append]
 have : (L.take j).filter (fun p => decide (doc <= p.doc)) = [] := List.filter_eq_nil_iff.2 fun p hp => by
  have := h2 p hp
  simp; omega
 rw [this, List.nil_append]
theorem from_zero {L : List Pg} (hR : RightG L) : fromL L 0 = L := by
 unfold fromL
 refine List.filter_eq_self.2 fun p hp => ?_
 have := (hR.2.1 p.doc (List.mem_map.2 ⟨p, hp, rfl⟩)).1
 simpa using this
theorem unp_from (l : List UInt8) : unpP l = if RightG (fFrom 0 l) /\ bytesP (fFrom 0 l) = l then some (fFrom 0 l) else none := by
 split
 ·rename_i h; exact unp_iff.2 h
 ·rename_i h
  cases hu : unpP l with
  | none => rfl
  | some L =>
   obtain ⟨h1, h2⟩ := unp_iff.1 hu
   have e : fFrom 0 l = L := by rw [<- h2, fFrom_back h1, from_zero h1]
   exact absurd (by rw [e]; exact ⟨h1, h2⟩) h
end Go.Proofs.Ytjcajeilhcjneaa.Po
/- What the program's reader of postings' bytes answers: number, posting. -/
set_option maxRecDepth 100000
namespace Go.Proofs.Ytjcajeilhcjneaa.Po
open Go.RowKit
open Fr (varL rdV bs)
def RdB (w : World) (g : Nat) (l : List UInt8) : Prop := w.heap[g]? = some (.cells #[.string (bs l)] 56 (0, 0))
theorem RdB.lt {w : World} {g : Nat} {l : List UInt8} (h : RdB w g l) : g < w.heap.size := (Array.getElem?_eq_some_iff.1 h).1
theorem RdB.below {w w' : World} {g : Nat} {l : List UInt8} (h : RdB w g l) (hb : Below w.heap.size w w') : RdB w' g l := (hb.block g h.lt).trans h
theorem RdB.cell {w : World} {g : Nat} {l : List UInt8} (h : RdB w g l) : w.cell? ⟨g, 0, none⟩ = some (.string (bs l)) := cell_atP h 0
theorem RdB.set {w : World} {g : Nat} {l : List UInt8} (h : RdB w g l) (m : List UInt8) : RdB (w.setCell ⟨g, 0, none⟩ (.string (bs m))) g m := by
 show _ = _
 rw [heap_setCell_at h _]
 rfl
set_option maxHeartbeats 2000000 in
theorem pnum_any (l : List UInt8) (g : Nat) (w : World) (h : RdB w g l) (hs : l.length <= 4000000) :
  Calls Try.prog 28 #[.pointer (some ⟨g, 0, none⟩)] w fun e w' => e = .returned (.int .i64 ((fNum l).1 : Int)) /\ RdB w' g (fNum l).2 /\ Only (fun k => k = g) w w' := by
 have hlt := h.lt
 have x0 := h.cell
 have HX : Hid (∀ W, Below w.heap.size w W -> RdB W g l /\ W.cell? ⟨g, 0, none⟩ = some (.string (bs l)) /\ W.frozen? ⟨g, 0, none⟩ = false) := fun W hW => by
  have e : RdB W g l := h.below hW
  exact ⟨e, e.cell, free_at e 0⟩
 have HO : Hid (∀ (W : World) (u : Value), Below w.heap.size w W -> Only (fun k => k = g) w (W.setCell ⟨g, 0, none⟩ u)) := fun W u hW => (Only.of_below (fun k => k = g) hW (Nat.le_refl _)).setCell (p := ⟨g, 0, none⟩) (fun _ => rfl) u
 have hsz : (bs l).size <= maxLen := by rw [Fr.bs_size]; unfold maxLen; omega
 have HSet : Hid (∀ (W : World) m, RdB W g l -> RdB (W.setCell ⟨g, 0, none⟩ (.string (bs m))) g m) := fun W m hW => hW.set m
 cases hv : rdV l with
 | none =>
  have hz : fNum l = (0, []) := by unfold fNum; rw [hv]
  rw [hz]
  have C := Lib.hid (Fr.toVar_no (s := bs l) w hsz (by rw [bs_list]; exact hv))
  have HS0 : Hid (∀ W, RdB W g l -> RdB (W.setCell ⟨g, 0, none⟩ (.string ⟨#[]⟩)) g []) := fun W hW => HSet.out W [] hW
  clear hv hz HSet
  generalize bs l = t at *
  go_enter Try.func28, Try.ntmps28
  go_wp2_with fail
  refine C.out.mono ?_
  rintro e w1 ⟨rfl, hb1⟩
  have HB := Lib.hid hb1; clear hb1 C
  obtain ⟨e1, y0, f0⟩ := HX.out w1 HB.out
  have HE := Lib.hid e1; clear e1 x0
  go_wp2_with fail
  go_ret
  exact ⟨rfl, HS0.out _ HE.out, HO.out w1 _ HB.out⟩
 | some p =>
  obtain ⟨v, r⟩ := p
  have C := Lib.hid (Fr.toVar_yes (s := bs l) w hsz (by rw [bs_list]; exact hv))
  have hvb := (Fr.rdV_some hv).2.1
  by_cases hmo : v <= 65536
  ·have hz : fNum l = (v, r) := by unfold fNum; rw [hv]; simp [hmo]
   rw [hz]
   have z1 : ¬ (65536 : Int) < (v : Int) := by omega
   have ww : IntKind.i64.wrap (v : Int) = (v : Int) := IntWalk.i64_in _ (by omega)
   have HS0 : Hid (∀ W, RdB W g l -> RdB (W.setCell ⟨g, 0, none⟩ (.string (bs r))) g r) := fun W hW => HSet.out W r hW
   clear hv hz HSet
   generalize bs l = t at *
   generalize bs r = q at *
   go_enter Try.func28, Try.ntmps28
   go_wp2_with fail
   refine C.out.mono ?_
   rintro e w1 ⟨rfl, hb1⟩
   have HB := Lib.hid hb1; clear hb1 C
   obtain ⟨e1, y0, f0⟩ := HX.out w1 HB.out
   have HE := Lib.hid e1; clear e1 x0
   go_wp2_with fail
   go_ret
   exact ⟨rfl, HS0.out _ HE.out, HO.out w1 _ HB.out⟩
  ·have hz : fNum l = (0, []) := by unfold fNum; rw [hv]; simp [hmo]
   rw [hz]
   have z1 : (65536 : Int) < (v : Int) := by omega
   have HS0 : Hid (∀ W, RdB W g l -> RdB (W.setCell ⟨g, 0, none⟩ (.string ⟨#[]⟩)) g []) := fun W hW => HSet.out W [] hW
   clear hv hz HSet
   generalize bs l = t at *
   generalize bs r = q at *
   go_enter Try.func28, Try.ntmps28
   go_wp2_with fail
   refine C.out.mono ?_
   rintro e w1 ⟨rfl, hb1⟩
   have HB := Lib.hid hb1; clear hb1 C
   obtain ⟨e1, y0, f0⟩ := HX.out w1 HB.out
   have HE := Lib.hid e1; clear e1 x0
   go_wp2_with fail
   go_ret
   exact ⟨rfl, HS0.out _ HE.out, HO.out w1 _ HB.out⟩
theorem own_sliceI {B : Nat} {w : World} {v : Value} {L : List Int} (h : OwnI B w v L) : ∃ ao c, v = .slice ao L.length c := by
 rcases h.2 with ⟨hv, hn⟩ | ⟨g, cap, cur, hv, _⟩
 ·exact ⟨none, 0, by rw [hv, hn]⟩
 ·exact ⟨_, cap, hv⟩
theorem bs_nil : (bs ([] : List UInt8)).toList.isEmpty = true := by
 rw [ByteArray.toList_eq]; rfl
theorem bs_cons (b : UInt8) (t : List UInt8) : (bs (b :: t)).toList.isEmpty = false := by
 rw [ByteArray.toList_eq, bs_list]; rfl
set_option maxHeartbeats 8000000 in
theorem pposting_any (a : Int) (l : List UInt8) (g : Nat) (w : World) (h : RdB w g l) (hs : l.length <= 4000000) (ha : -1 <= a /\ a <= 300000000000) :
  Calls Try.prog 33 #[.pointer (some ⟨g, 0, none⟩), .int .i64 a] w fun e w' => ∃ ve, e = .returned (.agg #[.int .i64 (fOne a l).1.doc, ve]) /\ OwnI w.heap.size w' ve (fOne a l).1.pos /\ RdB w' g (fOne a l).2 /\ Only (fun k => k = g) w w' := by
 obtain ⟨i0, hi, hz0, hz1, hz2⟩ := info_parts infoI
 have HZ2 := Lib.hid hz2; clear hz2
 have hgl := h.lt
 have hl1 := fNum_le l
 have hl2 := fNum_le (fNum l).2
 have HOne : Hid (fOne a l = (⟨a + (fNum l).1, (fGaps (fNum (fNum l).2).1 (-1) (fNum (fNum l).2).2).1⟩, (fGaps (fNum (fNum l).2).1 (-1) (fNum (fNum l).2).2).2)) := rfl
 rw [HOne.out]
 dsimp only
 obtain ⟨R, hR⟩ : ∃ R, w.heap.size = R := ⟨_, rfl⟩
 obtain ⟨W0, hW0⟩ : ∃ W0, w.alloc (.cells #[.int .i64 0, .slice none 0 0] 37) = W0 := ⟨_, rfl⟩
 have hs0 : W0.heap.size = R + 1 := by rw [<- hW0, World.size_alloc, hR]
 have hr0 : W0.heap[R]? = some (.cells #[.int .i64 0, .slice none 0 0] 37 (0, 0)) := by rw [<- hW0, <- hR]; exact heap_newP w _
 have hb0 : RdB W0 g l := h.below (by rw [<- hW0]; exact (Below.refl _ w).alloc (Nat.le_refl _) _)
 have C1 := Lib.hid (pnum_any l g W0 hb0 hs)
 have HO0 : Hid (Only (fun k => k = g) w W0) := by rw [<- hW0]; exact (Only.refl _ w).alloc _
 have HW0 := Lib.hid hW0
 have HS0 := Lib.hid hs0
 have HR0 := Lib.hid hr0
 obtain ⟨x, hx⟩ : ∃ x, (fNum l).1 = x := ⟨_, rfl⟩
 obtain ⟨l1, hl1e⟩ : ∃ l1, (fNum l).2 = l1 := ⟨_, rfl⟩
 rw [hx, hl1e] at C1 hl1
 rw [hx, hl1e]
 rw [hl1e] at hl2
 obtain ⟨c0, hc0⟩ : ∃ c0, (fNum l1).1 = c0 := ⟨_, rfl⟩
 obtain ⟨l2, hl2e⟩ : ∃ l2, (fNum l1).2 = l2 := ⟨_, rfl⟩
 rw [hc0, hl2e] at hl2 ⊢
 have HC0 := Lib.hid hc0
 have HL2 := Lib.hid hl2e
 have hax : IntKind.i64.wrap (a + (x : Int)) = a + (x : Int) := IntWalk.i64_in _ (by omega)
 clear hs0 hr0 hb0 hW0 h hx hl1e hc0 hl2e
 go_enter Try.func33, Try.ntmps33
 go_wp2_with fail
 rw [HW0.out]
 refine C1.out.mono ?_
 rintro e w1 ⟨rfl, hr1, ho1⟩
 obtain ⟨X, hX⟩ : ∃ X, w1.heap.size = X := ⟨_, rfl⟩
 obtain ⟨W2, hW2⟩ : ∃ W2, w1.alloc (.cells #[.int .i64 (a + (x : Int)), .slice none 0 0] 37) = W2 := ⟨_, rfl⟩
 have hs2 : W2.heap.size = X + 1 := by rw [<- hW2, World.size_alloc, hX]
 have hx2 : W2.heap[X]? = some (.cells #[.int .i64 (a + (x : Int)), .slice none 0 0] 37 (0, 0)) := by rw [<- hW2, <- hX]; exact heap_newP w1 _
 have hbw : Below w1.heap.size w1 W2 := by rw [<- hW2]; exact (Below.refl _ w1).alloc (Nat.le_refl _) _
 have hRX : R + 1 <= X := by rw [<- HS0.out, <- hX]; exact ho1.size
 have hgR : g < R := by omega
 have hr2 : RdB W2 g l1 := hr1.below hbw
 have hR2 : W2.heap[R]? = some (.cells #[.int .i64 0, .slice none 0 0] 37 (0, 0)) := by
  rw [hbw.block R (by omega), ho1.block R (by rw [HS0.out]; omega) (by omega)]
  exact HR0.out
 have hO2 : Only (fun k => k = g) w W2 := (HO0.out.trans ho1 (fun i _ h => h)).trans (Only.of_below (fun k => k = g) hbw (Nat.le_refl _)) (fun i _ h => h)
 have C2 := Lib.hid (pnum_any l1 g W2 hr2 (by omega))
 rw [HC0.out, HL2.out] at C2
 have HX2 := Lib.hid hx2
 have HR2 := Lib.hid hR2
 have HO2 := Lib.hid hO2
 have HS2 := Lib.hid hs2
 have HW2 := Lib.hid hW2
 clear hs2 hx2 hbw hr2 hR2 hO2 hW2 hr1 ho1
 go_wp2_with fail
 rw [HW2.out]
 refine C2.out.mono ?_
 rintro e w3 ⟨rfl, hr3, ho3⟩
 have HX3 : Hid (w3.heap[X]? = some (.cells #[.int .i64 (a + (x : Int)), .slice none 0 0] 37 (0, 0))) := (ho3.block X (by rw [HS2.out]; omega) (by omega)).trans HX2.out
 have HR3 : Hid (w3.heap[R]? = some (.cells #[.int .i64 0, .slice none 0 0] 37 (0, 0))) := (ho3.block R (by rw [HS2.out]; omega) (by omega)).trans HR2.out
 have HO3 : Hid (Only (fun k => k = g) w w3) := HO2.out.trans ho3 (fun i _ h => h)
 have HD3 := Lib.hid hr3
 clear hr3 ho3
 go_wp2_with fail
 go_loopw [1, 6] (fun lv cv wr => ∃ (c : Nat) (b : Int) (m : List UInt8) (pre : List Int) (vp : Value), lv = .int .i64 b /\ cv = .int .i64 (c : Int) /\ c <= 65536 /\ pre.length + m.length <= l.length /\ -1 <= b /\ b <= 65536 * (pre.length : Int) /\
   Hid (fGaps c0 (-1) l2 = (pre ++ (fGaps c b m).1, (fGaps c b m).2)) /\ Hid (wr.heap[X]? = some (.cells #[.int .i64 (a + (x : Int)), vp] 37 (0, 0))) /\ Hid (wr.heap[R]? = some (.cells #[.int .i64 0, .slice none 0 0] 37 (0, 0))) /\
   Hid (OwnI (X + 1) wr vp pre) /\ Hid (RdB wr g m) /\ Hid (Only (fun k => k = g) w wr)) (fun _ cv _ => (intOf cv).toNat)
 case atStart => exact ⟨c0, -1, l2, [], .slice none 0 0, rfl, rfl, hl2.1, by simp; omega, by omega, by simp, rfl, HX3.out, HR3.out, World.ownsRow_nil _ _ _ _, HD3.out, HO3.out⟩
 case round =>
  clear HX3 HR3 HO3 HD3
  obtain ⟨c, b, m, pre, vp, rfl, rfl, hc6, hpm, hb1, hb2, HF, HX, HRr, HOw, HD, HO⟩ := hrel
  obtain ⟨vo, vc, rfl⟩ := own_sliceI HOw.out
  obtain ⟨k, hk⟩ : ∃ k, pre.length = k := ⟨_, rfl⟩
  rw [hk] at HX HOw hpm hb2
  have HKk := Lib.hid hk
  clear hk
  have x0 := HD.out.cell
  have p0 := cell_atP HX.out 0
  have p1 := cell_atP HX.out 1
  have fR0 := free_at HRr.out 0
  have fR1 := free_at HRr.out 1
  have q0 := cell_atP HRr.out 0
  have q1 := cell_atP HRr.out 1
  have HYH : Hid (((wr.setCell ⟨R, 0, none⟩ (.int .i64 (a + (x : Int)))).setCell ⟨R, 1, none⟩ (.slice vo k vc)).heap[R]? = some (.cells #[.int .i64 (a + (x : Int)), .slice vo k vc] 37 (0, 0))) := by
   show _ = _
   rw [heap_setCell_at (i := 1) (heap_setCell_at (i := 0) HRr.out (.int .i64 (a + (x : Int)))) (.slice vo k vc)]; rfl
  have HFin : Hid ((fGaps c b m).1 = [] -> (fGaps c b m).2 = m -> ∃ ve, Ending.returned (.agg #[.int .i64 (a + (x : Int)), .slice vo k vc]) = Ending.returned (.agg #[.int .i64 (a + (x : Int)), ve]) /\ OwnI w.heap.size ((wr.setCell ⟨R, 0, none⟩ (.int .i64 (a + (x : Int)))).setCell ⟨R, 1, none⟩ (.slice vo k vc)) ve (fGaps c0 (-1) l2).1 /\ RdB ((wr.setCell ⟨R, 0, none⟩ (.int .i64 (a + (x : Int)))).setCell ⟨R, 1, none⟩ (.slice vo k vc)) g (fGaps c0 (-1) l2).2 /\ Only (fun k => k = g) w ((wr.setCell ⟨R, 0, none⟩ (.int .i64 (a + (x : Int)))).setCell ⟨R, 1, none⟩ (.slice vo k vc))) := fun e1 e2 => by
   have hW : Only (fun k => k = R) wr ((wr.setCell ⟨R, 0, none⟩ (.int .i64 (a + (x : Int)))).setCell ⟨R, 1, none⟩ (.slice vo k vc)) := ((Only.refl (fun b => b = R) wr).setCell (p := ⟨R, 0, none⟩) (fun _ => rfl) _).setCell (p := ⟨R, 1, none⟩) (fun _ => rfl) _
   rw [HF.out, e1, e2, List.append_nil]
   refine ⟨_, rfl, own_mono (own_kept HOw.out hW fun q hq => by have := own_low HOw.out hq; omega) (by omega), (hW.block g HD.out.lt (by omega)).trans HD.out, HO.out.trans hW fun i hi h => by omega⟩
  by_cases hc : c = 0
  ·subst hc
   have HFn := Lib.hid (HFin.out rfl rfl)
   clear HFin
   go_wp2_with fail
   refine bodyPost_ret (v := .agg #[.int .i64 (a + (x : Int)), .slice vo k vc]) ?_ rfl HFn.out
   exact results_cell_row rfl _ _ R 37 _ _ _ rfl HYH.out Try.underlying37 rfl (by kernel_rfl)
  ·obtain ⟨n, rfl⟩ : ∃ n, c = n + 1 := ⟨c - 1, by omega⟩
   have hcz : (0 : Int) < ((n + 1 : Nat) : Int) := by omega
   cases m with
   | nil =>
    have HFn := Lib.hid (HFin.out rfl rfl)
    clear HFin
    have he0 : (bs ([] : List UInt8)).toList.isEmpty = true := bs_nil
    generalize bs ([] : List UInt8) = s0 at *
    go_wp2_with fail
    refine bodyPost_ret (v := .agg #[.int .i64 (a + (x : Int)), .slice vo k vc]) ?_ rfl HFn.out
    exact results_cell_row rfl _ _ R 37 _ _ _ rfl HYH.out Try.underlying37 rfl (by kernel_rfl)
   | cons b0 t =>
    have he0 : (bs (b0 :: t)).toList.isEmpty = false := bs_cons b0 t
    have hm6 := (fNum_le (b0 :: t)).1
    have hm7 := (fNum_le (b0 :: t)).2.2 (by simp)
    rw [List.length_cons] at hpm hm7
    have CN := Lib.hid (pnum_any (b0 :: t) g wr HD.out (by simp; omega))
    rw [fGaps] at HF
    clear HYH HFin
    obtain ⟨y, hy⟩ : ∃ y, (fNum (b0 :: t)).1 = y := ⟨_, rfl⟩
    obtain ⟨m', hm'⟩ : ∃ m', (fNum (b0 :: t)).2 = m' := ⟨_, rfl⟩
    rw [hy] at hm6
    rw [hm'] at hm7
    rw [hy, hm'] at HF CN
    generalize bs (b0 :: t) = s0 at *
    clear hy hm' HD
    go_wp2_with fail
    have HLn : Hid ((pre ++ [b + (y : Int)]).length = k + 1) := by show _ = _; rw [List.length_append, HKk.out]; rfl
    have HLb : Hid ((pre ++ [b + (y : Int)]).length + m'.length <= l.length /\ b + (y : Int) <= 65536 * ((pre ++ [b + (y : Int)]).length : Int)) := by rw [HLn.out]; exact ⟨by omega, by omega⟩
    have hby : IntKind.i64.wrap (b + (y : Int)) = b + (y : Int) := IntWalk.i64_in _ (by omega)
    refine CN.out.mono ?_
    rintro e w4 ⟨rfl, hr4, ho4⟩
    have hXw : X < wr.heap.size := (Array.getElem?_eq_some_iff.1 HX.out).1
    have HX4 : Hid (w4.heap[X]? = some (.cells #[.int .i64 (a + (x : Int)), .slice vo k vc] 37 (0, 0))) := (ho4.block X hXw (by omega)).trans HX.out
    have HR4 : Hid (w4.heap[R]? = some (.cells #[.int .i64 0, .slice none 0 0] 37 (0, 0))) := (ho4.block R (by omega) (by omega)).trans HRr.out
    have HOw4 : Hid (OwnI (X + 1) w4 (.slice vo k vc) pre) := own_kept HOw.out ho4 fun q hq => by have := own_low HOw.out hq; omega
    have HD4 := Lib.hid hr4
    have HO4 : Hid (Only (fun k => k = g) w w4) := HO.out.trans ho4 fun i hi h => h
    have HZ4 : Hid (X + 1 <= w4.heap.size) := by have := ho4.size; show _ <= _; omega
    have z1 := cell_atP HX4.out 1
    have hk4 : k <= 4000000 := by omega
    clear hr4 ho4 x0 p0 p1 q0 q1 fR0 fR1 HX HRr HOw HO
    go_wp2_with (at_builtin; go_loud (refine wpList_append_own _ rfl _ _ 35 rfl (X + 1) 3 i0 _ 1 8 Try.underlying35 hi hz0 hz1 HZ2.out rfl (by decide) _ _ _ rfl (by have h := HOw4.out.below ((Below.refl _ w4).alloc (Nat.le_refl _) (.cells #[.int .i64 (b + (y : Int))] 3)); unfold OwnI at h; rw [HKk.out] at h; exact h) _ 1 1 [.int .i64 (b + (y : Int))] rfl rfl (one_cellI (by simp)) one_oneI ?c3 ?c4 ?c5 ?_))
    case c3 => unfold maxLen; omega
    case c4 => omega
    case c5 => have := HZ4.out; simp; omega
    intro v1 w5 hown hgrow _
    have HB5 : Hid (Below w4.heap.size w4 w4) := Below.refl _ _
    have HOn5 : Hid (OwnI (X + 1) w5 v1 (pre ++ [b + (y : Int)])) := by
     show OwnI _ _ _ _
     unfold OwnI
     rw [List.length_append, List.map_append, HKk.out]
     exact hown
    have kept : ∀ q, q < X + 1 -> q < w4.heap.size -> w5.heap[q]? = w4.heap[q]? := fun q h1 h2 => by
     rw [hgrow.block q (by simp; omega) (fun e => by have := own_low HOw4.out e.symm; omega)]
     exact ((Below.refl _ w4).alloc (Nat.le_refl _) _).block q h2
    have HX5 : Hid (w5.heap[X]? = some (.cells #[.int .i64 (a + (x : Int)), .slice vo k vc] 37 (0, 0))) := (kept X (by omega) (by have := HZ4.out; omega)).trans HX4.out
    have HR5 : Hid (w5.heap[R]? = some (.cells #[.int .i64 0, .slice none 0 0] 37 (0, 0))) := (kept R (by omega) (by have := HZ4.out; omega)).trans HR4.out
    have HD5 : Hid (RdB w5 g m') := (kept g (by omega) HD4.out.lt).trans HD4.out
    have HO5 : Hid (Only (fun k => k = g) w w5) := ⟨hgrow.os.trans HO4.out.os, hgrow.tape.trans HO4.out.tape, hgrow.output.trans HO4.out.output, by have h1 := hgrow.size; have h2 := HO4.out.size; rw [World.size_alloc] at h1; omega, fun q h1 h2 => by
     have := HO4.out.size
     rw [kept q (by omega) (by omega)]
     exact HO4.out.block q h1 h2⟩
    obtain ⟨g', cap', rfl⟩ := own_succ hown
    have f1 := free_at HX5.out 1
    have hg' : X + 1 <= g' := own_low HOn5.out rfl
    have y1 := cell_atP HX5.out 1
    clear hown hgrow kept z1 HOw4 HX4 HR4 HD4 HO4
    have HW6 : Hid (Only (fun q => q = X) w5 (w5.setCell ⟨X, 1, none⟩ (.slice (some ⟨g', 0, none⟩) (k + 1) cap'))) := (Only.refl (fun q => q = X) w5).setCell (p := ⟨X, 1, none⟩) (fun _ => rfl) _
    go_wp2_with fail
    go_roundw
    case rel => exact ⟨n, b + (y : Int), m', pre ++ [b + (y : Int)], _, rfl, rfl, by omega, HLb.out.1, by omega, HLb.out.2, by
     show _ = _
     rw [HF.out, List.append_assoc]; rfl, (by show _ = _; rw [heap_setCell_at HX5.out]; rfl), (HW6.out.block R (Array.getElem?_eq_some_iff.1 HR5.out).1 (by omega)).trans HR5.out,
     own_kept HOn5.out HW6.out (fun q hq => by have := own_low HOn5.out hq; omega), (HW6.out.block g HD5.out.lt (by omega)).trans HD5.out, HO5.out.trans HW6.out (fun i hi h => by omega)⟩
    case measure => simp [intOf]
end Go.Proofs.Ytjcajeilhcjneaa.Po
