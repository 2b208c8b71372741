/- Rows of terms and values, as what is there to be read; alike, number, Right of the document. -/
import Derived.Test.YtjfclpicoamfaaaZWFix
import Derived.Test.YtjfclpicoamfaaaZBase
import Derived.Test.YtjfclpicoamfaaaZWRead
import Derived.Deep.QuietTactic
import Derived.Deep.RegionHeld3
import Derived.Lib.MinMax
import Derived.Laws.Cover1

set_option maxRecDepth 100000
namespace Go.Proofs.Ytjfclpicoamfaaa.Di
open Go.RowKit
open Fr (varL textL rdV bs)
theorem cell_atD {w : World} {p : Nat} {cs : Array Value} {e : TypeId} {fz : Nat × Nat} (h : w.heap[p]? = some (.cells cs e fz)) (i : Nat) : w.cell? ⟨p, i, none⟩ = cs[i]? := by
 simp [World.cell?, h]
theorem heap_newD (w : World) (o : Obj) : (w.alloc o).heap[w.heap.size]? = some o := heap_alloc_new w o
theorem add_atD (b off j : Nat) : (⟨b, off, none⟩ : Addr).add j = ⟨b, off + j, none⟩ := by unfold Addr.add; split <;> simp_all
theorem bs_app (l m : List UInt8) : bs l ++ bs m = bs (l ++ m) := Fr.bs_cat l m
def SlD (w : World) (v : Value) (L : List En) : Prop := ∃ ao c, v = .slice ao L.length c /\ L.length <= c /\ ∀ j (hj : j < L.length), ∃ g off, ao = some ⟨g, off, none⟩ /\ g < w.heap.size /\ w.cell? ⟨g, off + j * 2, none⟩ = some (.string L[j].t) /\ w.cell? ⟨g, off + j * 2 + 1, none⟩ = some (.string L[j].v)
theorem SlD.below {w w' : World} {v : Value} {L : List En} (h : SlD w v L) (hb : Below w.heap.size w w') : SlD w' v L := by
 obtain ⟨ao, c, hv, hl, hc⟩ := h
 refine ⟨ao, c, hv, hl, fun j hj => ?_⟩
 obtain ⟨g, off, e, hg, h1, h2⟩ := hc j hj
 exact ⟨g, off, e, Nat.lt_of_lt_of_le hg hb.size, (hb.cell (p := ⟨g, _, none⟩) hg).trans h1, (hb.cell (p := ⟨g, _, none⟩) hg).trans h2⟩
theorem SlD.nil (w : World) : SlD w (.slice none 0 0) [] := ⟨none, 0, rfl, Nat.le_refl _, fun j hj => absurd hj (Nat.not_lt_zero _)⟩
def flatD : List En -> List Value
 | [] => []
 | x :: r => .string x.t :: .string x.v :: flatD r
theorem flatD_len : ∀ L : List En, (flatD L).length = L.length * 2
 | [] => rfl
 | x :: r => by rw [flatD, List.length_cons, List.length_cons, flatD_len r, List.length_cons]; omega
theorem flatD_snoc : ∀ (L : List En) (x : En), flatD (L ++ [x]) = flatD L ++ [.string x.t, .string x.v]
 | [], _ => rfl
 | y :: r, x => by
  show _ :: _ :: flatD (r ++ [x]) = _
  rw [flatD_snoc r x]; rfl
theorem flatD_get : ∀ (L : List En) (j : Nat) (hj : j < L.length), (flatD L)[j * 2]? = some (.string L[j].t) /\ (flatD L)[j * 2 + 1]? = some (.string L[j].v)
 | [], _, hj => absurd hj (Nat.not_lt_zero _)
 | x :: r, 0, _ => ⟨rfl, rfl⟩
 | x :: r, j + 1, hj => by
  have := flatD_get r j (by simpa using hj)
  rw [show (j + 1) * 2 = j * 2 + 1 + 1 by omega]
  simp only [flatD, List.getElem?_cons_succ, List.getElem_cons_succ]
  exact this
def OwnD (B : Nat) (w : World) (e : TypeId) (v : Value) (L : List En) : Prop := w.ownsRow B e 2 v L.length (flatD L)
theorem OwnD.nil (B : Nat) (w : World) (e : TypeId) : OwnD B w e (.slice none 0 0) [] := World.ownsRow_nil _ _ _ _
theorem own_belowD {B : Nat} {e : TypeId} {k : Nat} {v : Value} {n : Nat} {xs : List Value} {w w' : World} (h : w.ownsRow B e k v n xs) (hb : Below w.heap.size w w') : w'.ownsRow B e k v n xs := by
 refine ⟨h.1, ?_⟩
 rcases h.2 with hn | ⟨g, cap, cur, rfl, hbg, hg, rest⟩
 ·exact .inl hn
 ·exact .inr ⟨g, cap, cur, rfl, hbg, by rw [hb.block g (Array.getElem?_eq_some_iff.1 hg).1]; exact hg, rest⟩
theorem OwnD.below {B : Nat} {w w' : World} {e : TypeId} {v : Value} {L : List En} (h : OwnD B w e v L) (hb : Below w.heap.size w w') : OwnD B w' e v L := own_belowD h hb
theorem own_lowD {B : Nat} {e : TypeId} {k : Nat} {w : World} {v : Value} {n : Nat} {xs : List Value} (h : w.ownsRow B e k v n xs) {q : Nat} (hq : v.ownBlock = some q) : B <= q := by
 rcases h.2 with ⟨rfl, _⟩ | ⟨g, cap, cur, rfl, hbg, _⟩
 ·cases hq
 ·have : g = q := by injection hq
  omega
theorem OwnD.sl {B : Nat} {w : World} {e : TypeId} {v : Value} {L : List En} (h : OwnD B w e v L) : SlD w v L := by
 have hO := h
 rcases h.2 with ⟨hv, hn⟩ | ⟨g, cap, cur, rfl, hbg, hg, hc, _⟩
 ·exact ⟨none, 0, by rw [hv, hn], by omega, fun j hj => absurd hj (by omega)⟩
 ·refine ⟨_, cap, rfl, hc, fun j hj => ⟨g, 0, rfl, (Array.getElem?_eq_some_iff.1 hg).1, ?_, ?_⟩⟩
  ·rw [Nat.zero_add, World.ownsRow.cellAt hO (j * 2) (by omega)]
   exact (flatD_get L j hj).1
  ·rw [Nat.zero_add, World.ownsRow.cellAt hO (j * 2 + 1) (by omega)]
   exact (flatD_get L j hj).2
theorem OwnD.slice {B : Nat} {w : World} {e : TypeId} {v : Value} {L : List En} (h : OwnD B w e v L) : ∃ ao c, v = .slice ao L.length c := by
 rcases h.2 with ⟨hv, hn⟩ | ⟨g, cap, cur, hv, _⟩
 ·exact ⟨none, 0, by rw [hv, hn]⟩
 ·exact ⟨_, cap, hv⟩
theorem two_cellD {w : World} {t : TypeId} {x y : Value} {g : Nat} (hg : w.heap.size = g) : ∀ (j : Nat) (u : Value), [x, y][j]? = some u -> (w.alloc (.cells #[x, y] t)).cell? ((⟨g, 0, none⟩ : Addr).add j) = some u := by
 subst hg
 intro j u hu
 rw [add_atD, Nat.zero_add, cell_atD (heap_newD ..)]
 rw [<- hu]; simp
theorem two_oneD {a b : ByteArray} : ∀ u ∈ [Value.string a, Value.string b], u.oneCell' = true := by
 intro u hu
 simp only [List.mem_cons, List.not_mem_nil, or_false] at hu
 rcases hu with rfl | rfl <;> rfl
theorem pair_upto {L : List En} {n : Nat} (h : n + 1 <= L.length) (h1 : (L.take n).Pairwise upE) (h2 : ∀ hp : 0 < n, upE L[n - 1] L[n]) : (L.take (n + 1)).Pairwise upE := by
 rw [List.take_succ_eq_append_getElem h]
 refine List.pairwise_append.2 ⟨h1, List.pairwise_singleton .., fun x hx y hy => ?_⟩
 rw [List.mem_singleton.1 hy]
 obtain ⟨k, hk, rfl⟩ := List.mem_iff_getElem.1 hx
 rw [List.length_take] at hk
 rw [List.getElem_take]
 have hp := h2 (by omega)
 by_cases e : k = n - 1
 ·subst e; exact hp
 ·have := List.pairwise_iff_getElem.1 h1 k (n - 1) (by rw [List.length_take]; omega) (by rw [List.length_take]; omega) (by omega)
  rw [List.getElem_take, List.getElem_take] at this
  exact less_trans this hp
theorem right_no {L : List En} {n : Nat} (h : n < L.length) (h1 : ¬ okE L[n] \/ ∃ hp : 0 < n, ¬ upE L[n - 1] L[n]) : ¬ RightD L := by
 rintro ⟨_, g1, g2⟩
 rcases h1 with h1 | ⟨hp, h1⟩
 ·exact h1 (g1 _ (List.getElem_mem h))
 ·exact h1 (List.pairwise_iff_getElem.1 g2 (n - 1) n (by omega) h (by omega))
theorem ok_take {L : List En} {n : Nat} (h : n < L.length) (h1 : ∀ x ∈ L.take n, okE x) (h2 : okE L[n]) : ∀ x ∈ L.take (n + 1), okE x := fun x hx => by
 rw [List.take_succ_eq_append_getElem h] at hx
 rcases List.mem_append.1 hx with hx | hx
 ·exact h1 x hx
 ·rw [List.mem_singleton.1 hx]; exact h2
set_option maxHeartbeats 8000000 in
theorem xdright_any (L : List En) (v : Value) (w : World) (h : SlD w v L) (hn : L.length <= 100000000) (hz : ∀ x ∈ L, x.t.size <= 9223372036854775807 /\ x.v.size <= 9223372036854775807) : Calls Try.prog 14 #[v] w fun e w' => e = .returned (.bool (decide (RightD L))) /\ Below w.heap.size w w' := by
 obtain ⟨ao, c, rfl, _, hc⟩ := h
 have HC := Lib.hid hc
 have HZ := Lib.hid hz
 obtain ⟨n, hl⟩ : ∃ n, L.length = n := ⟨_, rfl⟩
 have HN := Lib.hid hl
 obtain ⟨q, hq⟩ : ∃ q, decide (RightD L) = q := ⟨_, rfl⟩
 have HQ := Lib.hid hq
 rw [hl, hq]
 rw [hl] at hn
 clear hl hc hz hq
 go_enter Try.func14, Try.ntmps14
 go_wp2_with fail
 go_loopw [3] (fun iv wr => ∃ i : Nat, i <= n /\ iv = .int .i64 (i : Int) /\ Hid (Below w.heap.size w wr) /\ Hid ((∀ x ∈ L.take i, okE x) /\ (L.take i).Pairwise upE)) (fun iv _ => n - (intOf iv).toNat)
 case atStart => exact ⟨0, Nat.zero_le _, rfl, Below.refl _ _, fun x hx => by simp at hx, by simp⟩
 case round =>
  obtain ⟨i, hi, rfl, HB, HR⟩ := hrel
  have HD : Hid (∀ nq, Below w.heap.size w (wr.drewN nq)) := fun nq => by have := HB.out; exact ⟨this.os, this.tape, this.output, this.size, this.block⟩
  by_cases hlt : i < n
  ·have hiz : (i : Int) < (n : Int) := by omega
   have hiL : i < L.length := by rw [HN.out]; exact hlt
   obtain ⟨g, off, rfl, hg, h1, h2⟩ := HC.out i hiL
   have x1 := (HB.out.cell (p := ⟨g, _, none⟩) hg).trans h1
   have x2 := (HB.out.cell (p := ⟨g, _, none⟩) hg).trans h2
   obtain ⟨z1, z2⟩ := HZ.out L[i] (List.getElem_mem hiL)
   have HNo : Hid (¬ okE L[i] \/ (∃ hp : 0 < i, ¬ upE L[i - 1] L[i]) -> q = false) := fun h => by
    rw [<- HQ.out]; exact decide_eq_false (right_no hiL h)
   have HYes : Hid (okE L[i] -> (∀ hp : 0 < i, upE L[i - 1] L[i]) -> (∀ x ∈ L.take (i + 1), okE x) /\ (L.take (i + 1)).Pairwise upE) := fun h1 h2 => ⟨ok_take hiL HR.out.1 h1, pair_upto hiL HR.out.2 h2⟩
   have HP : Hid (∀ hp : 0 < i, wr.cell? ⟨g, off + (i - 1) * 2, none⟩ = some (.string L[i - 1].t)) := fun hp => by
    obtain ⟨g', off', e, hg', h1', _⟩ := HC.out (i - 1) (by omega)
    cases e
    exact (HB.out.cell (p := ⟨g, _, none⟩) hg').trans h1'
   have HOk : Hid (okE L[i] ↔ 1 <= L[i].t.size /\ L[i].t.size <= 40 /\ L[i].v.size <= 4194304) := Iff.rfl
   have HUp : Hid (∀ hp : 0 < i, upE L[i - 1] L[i] ↔ Op.bytesLess L[i - 1].t.toList L[i].t.toList = true) := fun hp => Iff.rfl
   have hi1 : i - 1 < L.length := by omega
   clear h1 h2 hg
   generalize L[i] = x at *
   have h3 : 0 <= (i : Int) := by omega
   have h4 : (i : Int).toNat = i := rfl
   by_cases z3 : x.t.size < 1
   ·have HF := Lib.hid (HNo.out (.inl fun h => by have := (HOk.out.1 h).1; omega))
    have b0 : decide ((x.t.size : Int) < 1) = true := decide_eq_true (by omega)
    go_wp2_with fail
    go_quiet (fail)
    go_wp2_with fail
    go_ret
    exact ⟨congrArg (fun b => Ending.returned (.bool b)) HF.out.symm, HD.out nq⟩
   ·have b0 : decide ((x.t.size : Int) < 1) = false := decide_eq_false (by omega)
    by_cases z4 : 40 < x.t.size
    ·have HF := Lib.hid (HNo.out (.inl fun h => by have := (HOk.out.1 h).2.1; omega))
     have b1 : decide ((40 : Int) < (x.t.size : Int)) = true := decide_eq_true (by omega)
     go_wp2_with fail
     go_quiet (fail)
     go_wp2_with fail
     go_ret
     exact ⟨congrArg (fun b => Ending.returned (.bool b)) HF.out.symm, HD.out nq⟩
    ·have b1 : decide ((40 : Int) < (x.t.size : Int)) = false := decide_eq_false (by omega)
     by_cases z5 : 4194304 < x.v.size
     ·have HF := Lib.hid (HNo.out (.inl fun h => by have := (HOk.out.1 h).2.2; omega))
      have b2 : decide ((4194304 : Int) < (x.v.size : Int)) = true := decide_eq_true (by omega)
      go_wp2_with fail
      go_quiet (fail)
      go_wp2_with fail
      go_ret
      exact ⟨congrArg (fun b => Ending.returned (.bool b)) HF.out.symm, HD.out nq⟩
     ·have b2 : decide ((4194304 : Int) < (x.v.size : Int)) = false := decide_eq_false (by omega)
      have HOx : Hid (okE x) := HOk.out.2 ⟨by omega, by omega, by omega⟩
      by_cases hp : i = 0
      ·have hip : ¬ (0 : Int) < (i : Int) := by omega
       have hpb : decide (0 < i) = false := decide_eq_false (by omega)
       have hip2 : decide ((0 : Int) < (i : Int)) = false := decide_eq_false hip
       have HF := Lib.hid (HYes.out HOx.out (fun h => absurd h (by omega)))
       clear hip hp
       go_wp2_with fail
       go_quiet (fail)
       go_wp2_with fail
       go_roundw
       case rel => exact ⟨i + 1, by omega, by go_num, HD.out nq, HF.out⟩
       case measure => simp [intOf]; omega
      ·have y1 := HP.out (by omega)
       have hip : (0 : Int) < (i : Int) := by omega
       have hpb : decide (0 < i) = true := decide_eq_true (by omega)
       have h5 : 0 <= (i : Int) - 1 := by omega
       have h6 : ((i : Int) - 1).toNat = i - 1 := by omega
       have h7 : (i : Int) - 1 < (n : Int) := by omega
       have h8 : IntKind.i64.wrap ((i : Int) - 1) = (i : Int) - 1 := IntWalk.i64_in _ (by omega)
       have HU := Lib.hid (HUp.out (by omega))
       by_cases z6 : Op.bytesLess L[i - 1].t.toList x.t.toList = true
       ·have HF := Lib.hid (HYes.out HOx.out (fun _ => HU.out.2 z6))
        generalize L[i - 1].t = yt at *
        clear HU HUp
        go_wp2_with fail
        go_quiet (fail)
        go_wp2_with fail
        go_roundw
        case rel => exact ⟨i + 1, by omega, by go_num, HD.out nq, HF.out⟩
        case measure => simp [intOf]; omega
       ·have HF := Lib.hid (HNo.out (.inr ⟨by omega, fun h => z6 (HU.out.1 h)⟩))
        have z7 : Op.bytesLess L[i - 1].t.toList x.t.toList = false := by simpa using z6
        generalize L[i - 1].t = yt at *
        clear HU HUp z6
        go_wp2_with fail
        go_quiet (fail)
        go_wp2_with fail
        go_ret
        exact ⟨congrArg (fun b => Ending.returned (.bool b)) HF.out.symm, HD.out nq⟩
  ·obtain rfl : i = n := by omega
   have hiz : ¬ (i : Int) < (i : Int) := by omega
   have HF : Hid (q = decide (i <= 1048576)) := by
    have h1 := HR.out.1
    have h2 := HR.out.2
    rw [List.take_of_length_le (by rw [HN.out]; exact Nat.le_refl _)] at h1 h2
    show _ = _
    rw [<- HQ.out, decide_eq_decide]
    exact ⟨fun h => by rw [<- HN.out]; exact h.1, fun h => ⟨by rw [HN.out]; exact h, h1, h2⟩⟩
   have hz : decide ((i : Int) <= 1048576) = decide (i <= 1048576) := by rw [decide_eq_decide]; omega
   go_wp2_with fail
   go_ret
   exact ⟨congrArg (fun b => Ending.returned (.bool b)) HF.out.symm, HB.out⟩
end Go.Proofs.Ytjfclpicoamfaaa.Di
/- The document's block and bytes of entries. -/
namespace Go.Proofs.Ytjfclpicoamfaaa.Di
open Go.RowKit
open Fr (varL textL rdV bs)
def prevT (L : List En) (i : Nat) : List UInt8 := match (L.take i).getLast? with
 | some y => y.t.data.toList
 | none => []
theorem blk_snoc (x : En) : ∀ (p : List UInt8) (M : List En), blkL p (M ++ [x]) = blkL p M ++ entL (match M.getLast? with | some y => y.t.data.toList | none => p) x
 | p, [] => by show entL p x ++ [] = [] ++ entL p x; simp
 | p, y :: r => by
  rw [List.cons_append, blkL, blkL, blk_snoc x y.t.data.toList r, List.append_assoc]
  congr 3
  cases r with
  | nil => rfl
  | cons z q =>
   rw [List.getLast?_cons_cons]
   cases hq : (z :: q).getLast? with
   | none => simp at hq
   | some z => rfl
theorem blk_take {L : List En} {i : Nat} (h : i < L.length) : blkL [] (L.take (i + 1)) = blkL [] (L.take i) ++ entL (prevT L i) L[i] := by
 rw [List.take_succ_eq_append_getElem h, blk_snoc]
 rfl
def Sml (L : List En) : Prop := ∀ x ∈ L, okE x /\ x.v.size <= 1000000
theorem blk_len : ∀ (p : List UInt8) (L : List En), Sml L -> (blkL p L).length <= 1000100 * L.length
 | _, [], _ => Nat.le_refl _
 | p, x :: r, h => by
  have h1 := entL_len p (h x (by simp)).1
  have h2 := blk_len x.t.data.toList r (fun y hy => h y (by simp [hy]))
  obtain ⟨⟨_, ho1, _⟩, ho2⟩ := h x (by simp)
  rw [blkL, List.length_append, List.length_cons]
  omega
end Go.Proofs.Ytjfclpicoamfaaa.Di
/- The document's bytes of entries. -/
namespace Go.Proofs.Ytjfclpicoamfaaa.Di
open Go.RowKit
open Fr (varL textL rdV bs)
def headT : List En -> List UInt8
 | x :: _ => textL x.t.data.toList
 | [] => []
def grp (L : List En) (q : Nat) : List En := (L.drop (16 * q)).take 16
def idxG (L : List En) : Nat -> List UInt8
 | 0 => []
 | q + 1 => idxG L q ++ (headT (L.drop (16 * q)) ++ varL (blkL [] (grp L q)).length)
def allG (L : List En) : Nat -> List UInt8
 | 0 => []
 | q + 1 => allG L q ++ blkL [] (grp L q)
theorem idx_step {M : List En} (h : M ≠ []) : idxL M = headT M ++ (varL (blkL [] (M.take 16)).length ++ idxL (M.drop 16)) := by
 cases M with
 | nil => exact absurd rfl h
 | cons x r =>
  rw [idxL, dif_neg (by simp)]
  rfl
theorem all_step {M : List En} (h : M ≠ []) : allD M = blkL [] (M.take 16) ++ allD (M.drop 16) := by
 rw [allD, dif_neg h]
theorem drop_ne {L : List En} {k : Nat} (h : k < L.length) : L.drop k ≠ [] := fun e => by
 have := congrArg List.length e
 rw [List.length_drop, List.length_nil] at this
 omega
theorem idxG_rest (L : List En) : ∀ q, (q = 0 \/ 16 * (q - 1) < L.length) -> idxG L q ++ idxL (L.drop (16 * q)) = idxL L /\ allG L q ++ allD (L.drop (16 * q)) = allD L
 | 0, _ => ⟨rfl, rfl⟩
 | q + 1, h => by
  have hq : 16 * q < L.length := by rcases h with h | h <;> omega
  obtain ⟨i1, i2⟩ := idxG_rest L q (by omega)
  rw [idx_step (drop_ne hq), List.drop_drop] at i1
  rw [all_step (drop_ne hq), List.drop_drop] at i2
  rw [show 16 * (q + 1) = 16 * q + 16 by omega]
  exact ⟨by rw [<- i1, idxG]; simp only [List.append_assoc]; rfl, by rw [<- i2, allG]; simp only [List.append_assoc]; rfl⟩
theorem idxG_all (L : List En) (q : Nat) (h1 : q = 0 \/ 16 * (q - 1) < L.length) (h2 : L.length <= 16 * q) : idxG L q = idxL L /\ allG L q = allD L := by
 obtain ⟨i1, i2⟩ := idxG_rest L q h1
 rw [List.drop_eq_nil_of_le h2, idxL, dif_pos rfl, List.append_nil] at i1
 rw [List.drop_eq_nil_of_le h2, allD, dif_pos rfl, List.append_nil] at i2
 exact ⟨i1, i2⟩
theorem Sml.sub {L M : List En} (h : Sml L) (hs : ∀ x ∈ M, x ∈ L) : Sml M := fun x hx => h x (hs x hx)
theorem grp_sub {L : List En} {q : Nat} : ∀ x ∈ grp L q, x ∈ L := fun _ hx => List.mem_of_mem_drop (List.mem_of_mem_take hx)
end Go.Proofs.Ytjfclpicoamfaaa.Di
