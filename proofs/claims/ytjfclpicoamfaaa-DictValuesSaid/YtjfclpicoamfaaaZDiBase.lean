/- Rows of terms and values, as what is there to be read; alike, number, Right of the document. -/
import Derived.Test.YtjfclpicoamfaaaZWFix
import Derived.Test.YtjfclpicoamfaaaZBase
import Derived.Test.YtjfclpicoamfaaaZWRead
import Derived.Deep.QuietTactic
import Derived.Deep.RegionHeld3
import Derived.Lib.MinMax
import Derived.Laws.Cover1

namespace Go.Proofs.Ytjfclpicoamfaaa.Di
open Go.RowKit
open Fr (varL textL rdV bs)
theorem cell_atD {w : World} {p : Nat} {cs : Array Value} {e : TypeId} {fz : Nat × Nat} (h : w.heap[p]? = some (.cells cs e fz)) (i : Nat) : w.cell? ⟨p, i, none⟩ = cs[i]? := by
 simp [World.cell?, h]
theorem heap_newD (w : World) (o : Obj) : (w.alloc o).heap[w.heap.size]? = some o := heap_alloc_new w o
theorem add_atD (b off j : Nat) : (⟨b, off, none⟩ : Addr).add j = ⟨b, off + j, none⟩ := by unfold Addr.add; split <;> simp_all
theorem bs_app (l m : List UInt8) : bs l ++ bs m = bs (l ++ m) := Fr.bs_cat l m
def SlD (w : World) (v : Value) (L : List En) : Prop := ∃ ao c, v = .slice ao L.length c /\ L.length <= c /\ ∀ j (hj : j < L.length), ∃ g off, ao = some ⟨g, off, none⟩ /\ g < w.heap.size /\ w.cell? ⟨g, off + j * 2, none⟩ = some (.string L[j].t) /\ w.cell? ⟨g, off + j * 2 + 1, none⟩ = some (.string L[j].v)
theorem SlD.below {w w' : World} {v : Value} {L : List En} (h : SlD w v L) (hb : Below w.heap.size w w') : SlD w' v L := by
 obtain ⟨ao, c, hv, hl, hc⟩ := h
 refine ⟨ao, c, hv, hl, fun j hj => ?_⟩
 obtain ⟨g, off, e, hg, h1, h2⟩ := hc j hj
 exact ⟨g, off, e, Nat.lt_of_lt_of_le hg hb.size, (hb.cell (p := ⟨g, _, none⟩) hg).trans h1, (hb.cell (p := ⟨g, _, none⟩) hg).trans h2⟩
theorem SlD.nil (w : World) : SlD w (.slice none 0 0) [] := ⟨none, 0, rfl, Nat.le_refl _, fun j hj => absurd hj (Nat.not_lt_zero _)⟩
def flatD : List En -> List Value
 | [] => []
 | x :: r => .string x.t :: .string x.v :: flatD r
theorem flatD_len : ∀ L : List En, (flatD L).length = L.length * 2
 | [] => rfl
 | x :: r => by rw [flatD, List.length_cons, List.length_cons, flatD_len r, List.length_cons]; omega
theorem flatD_snoc : ∀ (L : List En) (x : En), flatD (L ++ [x]) = flatD L ++ [.string x.t, .string x.v]
 | [], _ => rfl
 | y :: r, x => by
  show _ :: _ :: flatD (r ++ [x]) = _
  rw [flatD_snoc r x]; rfl
theorem flatD_get : ∀ (L : List En) (j : Nat) (hj : j < L.length), (flatD L)[j * 2]? = some (.string L[j].t) /\ (flatD L)[j * 2 + 1]? = some (.string L[j].v)
 | [], _, hj => absurd hj (Nat.not_lt_zero _)
 | x :: r, 0, _ => ⟨rfl, rfl⟩
 | x :: r, j + 1, hj => by
  have := flatD_get r j (by simpa using hj)
  rw [show (j + 1) * 2 = j * 2 + 1 + 1 by omega]
  simp only [flatD, List.getElem?_cons_succ, List.getElem_cons_succ]
  exact this
def OwnD (B : Nat) (w : World) (e : TypeId) (v : Value) (L : List En) : Prop := w.ownsRow B e 2 v L.length (flatD L)
theorem OwnD.nil (B : Nat) (w : World) (e : TypeId) : OwnD B w e (.slice none 0 0) [] := World.ownsRow_nil _ _ _ _
theorem own_belowD {B : Nat} {e : TypeId} {k : Nat} {v : Value} {n : Nat} {xs : List Value} {w w' : World} (h : w.ownsRow B e k v n xs) (hb : Below w.heap.size w w') : w'.ownsRow B e k v n xs := by
 refine ⟨h.1, ?_⟩
 rcases h.2 with hn | ⟨g, cap, cur, rfl, hbg, hg, rest⟩
 ·exact .inl hn
 ·exact .inr ⟨g, cap, cur, rfl, hbg, by rw [hb.block g (Array.getElem?_eq_some_iff.1 hg).1]; exact hg, rest⟩
theorem OwnD.below {B : Nat} {w w' : World} {e : TypeId} {v : Value} {L : List En} (h : OwnD B w e v L) (hb : Below w.heap.size w w') : OwnD B w' e v L := own_belowD h hb
theorem own_lowD {B : Nat} {e : TypeId} {k : Nat} {w : World} {v : Value} {n : Nat} {xs : List Value} (h : w.ownsRow B e k v n xs) {q : Nat} (hq : v.ownBlock = some q) : B <= q := by
 rcases h.2 with ⟨rfl, _⟩ | ⟨g, cap, cur, rfl, hbg, _⟩
 ·cases hq
 ·have : g = q := by injection hq
  omega
theorem OwnD.sl {B : Nat} {w : World} {e : TypeId} {v : Value} {L : List En} (h : OwnD B w e v L) : SlD w v L := by
 have hO := h
 rcases h.2 with ⟨hv, hn⟩ | ⟨g, cap, cur, rfl, hbg, hg, hc, _⟩
 ·exact ⟨none, 0, by rw [hv, hn], by omega, fun j hj => absurd hj (by omega)⟩
 ·refine ⟨_, cap, rfl, hc, fun j hj => ⟨g, 0, rfl, (Array.getElem?_eq_some_iff.1 hg).1, ?_, ?_⟩⟩
  ·rw [Nat.zero_add, World.ownsRow.cellAt hO (j * 2) (by omega)]
   exact (flatD_get L j hj).1
  ·rw [Nat.zero_add, World.ownsRow.cellAt hO (j * 2 + 1) (by omega)]
   exact (flatD_get L j hj).2
theorem OwnD.slice {B : Nat} {w : World} {e : TypeId} {v : Value} {L : List En} (h : OwnD B w e v L) : ∃ ao c, v = .slice ao L.length c := by
 rcases h.2 with ⟨hv, hn⟩ | ⟨g, cap, cur, hv, _⟩
 ·exact ⟨none, 0, by rw [hv, hn]⟩
 ·exact ⟨_, cap, hv⟩
theorem two_cellD {w : World} {t : TypeId} {x y : Value} {g : Nat} (hg : w.heap.size = g) : ∀ (j : Nat) (u : Value), [x, y][j]? = some u -> (w.alloc (.cells #[x, y] t)).cell? ((⟨g, 0, none⟩ : Addr).add j) = some u := by
 subst hg
 intro j u hu
 rw [add_atD, Nat.zero_add, cell_atD (heap_newD ..)]
 rw [<- hu]; simp
theorem two_oneD {a b : ByteArray} : ∀ u ∈ [Value.string a, Value.string b], u.oneCell' = true := by
 intro u hu
 simp only [List.mem_cons, List.not_mem_nil, or_false] at hu
 rcases hu with rfl | rfl <;> rfl
theorem pair_upto {L : List En} {n : Nat} (h : n + 1 <= L.length) (h1 : (L.take n).Pairwise upE) (h2 : ∀ hp : 0 < n, upE L[n - 1] L[n]) : (L.take (n + 1)).Pairwise upE := by
 rw [List.take_succ_eq_append_getElem h]
 refine List.pairwise_append.2 ⟨h1, List.pairwise_singleton .., fun x hx y hy => ?_⟩
 rw [List.mem_singleton.1 hy]
 obtain ⟨k, hk, rfl⟩ := List.mem_iff_getElem.1 hx
 rw [List.length_take] at hk
 rw [List.getElem_take]
 have hp := h2 (by omega)
 by_cases e : k = n - 1
 ·subst e; exact hp
 ·have := List.pairwise_iff_getElem.1 h1 k (n - 1) (by rw [List.length_take]; omega) (by rw [List.length_take]; omega) (by omega)
  rw [List.getElem_take, List.getElem_take] at this
  exact less_trans this hp
theorem right_no {L : List En} {n : Nat} (h : n < L.length) (h1 : ¬ okE L[n] \/ ∃ hp : 0 < n, ¬ upE L[n - 1] L[n]) : ¬ RightD L := by
 rintro ⟨_, g1, g2⟩
 rcases h1 with h1 | ⟨hp, h1⟩
 ·exact h1 (g1 _ (List.getElem_mem h))
 ·exact h1 (List.pairwise_iff_getElem.1 g2 (n - 1) n (by omega) h (by omega))
theorem ok_take {L : List En} {n : Nat} (h : n < L.length) (h1 : ∀ x ∈ L.take n, okE x) (h2 : okE L[n]) : ∀ x ∈ L.take (n + 1), okE x := fun x hx => by
 rw [List.take_succ_eq_append_getElem h] at hx
 rcases List.mem_append.1 hx with hx | hx
 ·exact h1 x hx
 ·rw [List.mem_singleton.1 hx]; exact h2
end Go.Proofs.Ytjfclpicoamfaaa.Di
/- The document's block and bytes of entries. -/
namespace Go.Proofs.Ytjfclpicoamfaaa.Di
open Go.RowKit
open Fr (varL textL rdV bs)
def prevT (L : List En) (i : Nat) : List UInt8 := match (L.take i).getLast? with
 | some y => y.t.data.toList
 | none => []
theorem blk_snoc (x : En) : ∀ (p : List UInt8) (M : List En), blkL p (M ++ [x]) = blkL p M ++ entL (match M.getLast? with | some y => y.t.data.toList | none => p) x
 | p, [] => by show entL p x ++ [] = [] ++ entL p x; simp
 | p, y :: r => by
  rw [List.cons_append, blkL, blkL, blk_snoc x y.t.data.toList r, List.append_assoc]
  congr 3
  cases r with
  | nil => rfl
  | cons z q =>
   rw [List.getLast?_cons_cons]
   cases hq : (z :: q).getLast? with
   | none => simp at hq
   | some z => rfl
theorem blk_take {L : List En} {i : Nat} (h : i < L.length) : blkL [] (L.take (i + 1)) = blkL [] (L.take i) ++ entL (prevT L i) L[i] := by
 rw [List.take_succ_eq_append_getElem h, blk_snoc]
 rfl
def Sml (L : List En) : Prop := ∀ x ∈ L, okE x /\ x.v.size <= 1000000
theorem blk_len : ∀ (p : List UInt8) (L : List En), Sml L -> (blkL p L).length <= 1000100 * L.length
 | _, [], _ => Nat.le_refl _
 | p, x :: r, h => by
  have h1 := entL_len p (h x (by simp)).1
  have h2 := blk_len x.t.data.toList r (fun y hy => h y (by simp [hy]))
  obtain ⟨⟨_, ho1, _⟩, ho2⟩ := h x (by simp)
  rw [blkL, List.length_append, List.length_cons]
  omega
end Go.Proofs.Ytjfclpicoamfaaa.Di
/- The document's bytes of entries. -/
namespace Go.Proofs.Ytjfclpicoamfaaa.Di
open Go.RowKit
open Fr (varL textL rdV bs)
def headT : List En -> List UInt8
 | x :: _ => textL x.t.data.toList
 | [] => []
def grp (L : List En) (q : Nat) : List En := (L.drop (16 * q)).take 16
def idxG (L : List En) : Nat -> List UInt8
 | 0 => []
 | q + 1 => idxG L q ++ (headT (L.drop (16 * q)) ++ varL (blkL [] (grp L q)).length)
def allG (L : List En) : Nat -> List UInt8
 | 0 => []
 | q + 1 => allG L q ++ blkL [] (grp L q)
theorem idx_step {M : List En} (h : M ≠ []) : idxL M = headT M ++ (varL (blkL [] (M.take 16)).length ++ idxL (M.drop 16)) := by
 cases M with
 | nil => exact absurd rfl h
 | cons x r =>
  rw [idxL, dif_neg (by simp)]
  rfl
theorem all_step {M : List En} (h : M ≠ []) : allD M = blkL [] (M.take 16) ++ allD (M.drop 16) := by
 rw [allD, dif_neg h]
theorem drop_ne {L : List En} {k : Nat} (h : k < L.length) : L.drop k ≠ [] := fun e => by
 have := congrArg List.length e
 rw [List.length_drop, List.length_nil] at this
 omega
theorem idxG_rest (L : List En) : ∀ q, (q = 0 \/ 16 * (q - 1) < L.length) -> idxG L q ++ idxL (L.drop (16 * q)) = idxL L /\ allG L q ++ allD (L.drop (16 * q)) = allD L
 | 0, _ => ⟨rfl, rfl⟩
 | q + 1, h => by
  have hq : 16 * q < L.length := by rcases h with h | h <;> omega
  obtain ⟨i1, i2⟩ := idxG_rest L q (by omega)
  rw [idx_step (drop_ne hq), List.drop_drop] at i1
  rw [all_step (drop_ne hq), List.drop_drop] at i2
  rw [show 16 * (q + 1) = 16 * q + 16 by omega]
  exact ⟨by rw [<- i1, idxG]; simp only [List.append_assoc]; rfl, by rw [<- i2, allG]; simp only [List.append_assoc]; rfl⟩
theorem idxG_all (L : List En) (q : Nat) (h1 : q = 0 \/ 16 * (q - 1) < L.length) (h2 : L.length <= 16 * q) : idxG L q = idxL L /\ allG L q = allD L := by
 obtain ⟨i1, i2⟩ := idxG_rest L q h1
 rw [List.drop_eq_nil_of_le h2, idxL, dif_pos rfl, List.append_nil] at i1
 rw [List.drop_eq_nil_of_le h2, allD, dif_pos rfl, List.append_nil] at i2
 exact ⟨i1, i2⟩
theorem Sml.sub {L M : List En} (h : Sml L) (hs : ∀ x ∈ M, x ∈ L) : Sml M := fun x hx => h x (hs x hx)
theorem grp_sub {L : List En} {q : Nat} : ∀ x ∈ grp L q, x ∈ L := fun _ hx => List.mem_of_mem_drop (List.mem_of_mem_take hx)
end Go.Proofs.Ytjfclpicoamfaaa.Di
