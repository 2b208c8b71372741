/- Rows of terms and values, as what is there to be read; alike, number, Right of the document. -/
import Derived.Test.YtjfclpicoamfaaaZWFix
import Derived.Test.YtjfclpicoamfaaaZBase
import Derived.Test.YtjfclpicoamfaaaZWRead
import Derived.Deep.QuietTactic
import Derived.Deep.RegionHeld3
import Derived.Lib.MinMax
import Derived.Laws.Cover1

set_option maxRecDepth 100000
namespace Go.Proofs.Ytjfclpicoamfaaa.Di
open Go.RowKit
open Fr (varL textL rdV bs)
theorem cell_atD {w : World} {p : Nat} {cs : Array Value} {e : TypeId} {fz : Nat × Nat} (h : w.heap[p]? = some (.cells cs e fz)) (i : Nat) : w.cell? ⟨p, i, none⟩ = cs[i]? := by
 simp [World.cell?, h]
theorem heap_newD (w : World) (o : Obj) : (w.alloc o).heap[w.heap.size]? = some o := heap_alloc_new w o
theorem add_atD (b off j : Nat) : (⟨b, off, none⟩ : Addr).add j = ⟨b, off + j, none⟩ := by unfold Addr.add; split <;> simp_all
theorem bs_app (l m : List UInt8) : bs l ++ bs m = bs (l ++ m) := Fr.bs_cat l m
def SlD (w : World) (v : Value) (L : List En) : Prop := ∃ ao c, v = .slice ao L.length c /\ L.length <= c /\ ∀ j (hj : j < L.length), ∃ g off, ao = some ⟨g, off, none⟩ /\ g < w.heap.size /\ w.cell? ⟨g, off + j * 2, none⟩ = some (.string L[j].t) /\ w.cell? ⟨g, off + j * 2 + 1, none⟩ = some (.string L[j].v)
theorem SlD.below {w w' : World} {v : Value} {L : List En} (h : SlD w v L) (hb : Below w.heap.size w w') : SlD w' v L := by
 obtain ⟨ao, c, hv, hl, hc⟩ := h
 refine ⟨ao, c, hv, hl, fun j hj => ?_⟩
 obtain ⟨g, off, e, hg, h1, h2⟩ := hc j hj
 exact ⟨g, off, e, Nat.lt_of_lt_of_le hg hb.size, (hb.cell (p := ⟨g, _, none⟩) hg).trans h1, (hb.cell (p := ⟨g, _, none⟩) hg).trans h2⟩
theorem SlD.nil (w : World) : SlD w (.slice none 0 0) [] := ⟨none, 0, rfl, Nat.le_refl _, fun j hj => absurd hj (Nat.not_lt_zero _)⟩
theorem SlD.part {w : World} {ao : Option Addr} {c : Nat} {L : List En} (h : SlD w (.slice ao L.length c) L) (a b : Nat) (hab : a <= b) (hb : b <= L.length) (h0 : a < b) :
  ∃ g off, ao = some ⟨g, off, none⟩ /\ SlD w (.slice (some ⟨g, off + a * 2, none⟩) (b - a) (c - a)) ((L.drop a).take (b - a)) := by
 obtain ⟨ao', c', e, hl, hc⟩ := h
 cases e
 obtain ⟨g, off, rfl, hg, -, -⟩ := hc a (by omega)
 refine ⟨g, off, rfl, _, _, by rw [List.length_take, List.length_drop, Nat.min_eq_left (by omega)], by rw [List.length_take, List.length_drop]; omega, fun j hj => ?_⟩
 rw [List.length_take, List.length_drop] at hj
 obtain ⟨g', off', e, hg', h1, h2⟩ := hc (a + j) (by omega)
 cases e
 refine ⟨g, off + a * 2, rfl, hg, ?_, ?_⟩
 ·rw [List.getElem_take, List.getElem_drop, <- h1]
  congr 2; omega
 ·rw [List.getElem_take, List.getElem_drop, <- h2]
  congr 2; omega
def flatD : List En -> List Value
 | [] => []
 | x :: r => .string x.t :: .string x.v :: flatD r
theorem flatD_len : ∀ L : List En, (flatD L).length = L.length * 2
 | [] => rfl
 | x :: r => by rw [flatD, List.length_cons, List.length_cons, flatD_len r, List.length_cons]; omega
theorem flatD_snoc : ∀ (L : List En) (x : En), flatD (L ++ [x]) = flatD L ++ [.string x.t, .string x.v]
 | [], _ => rfl
 | y :: r, x => by
  show _ :: _ :: flatD (r ++ [x]) = _
  rw [flatD_snoc r x]; rfl
theorem flatD_get : ∀ (L : List En) (j : Nat) (hj : j < L.length), (flatD L)[j * 2]? = some (.string L[j].t) /\ (flatD L)[j * 2 + 1]? = some (.string L[j].v)
 | [], _, hj => absurd hj (Nat.not_lt_zero _)
 | x :: r, 0, _ => ⟨rfl, rfl⟩
 | x :: r, j + 1, hj => by
  have := flatD_get r j (by simpa using hj)
  rw [show (j + 1) * 2 = j * 2 + 1 + 1 by omega]
  simp only [flatD, List.getElem?_cons_succ, List.getElem_cons_succ]
  exact this
def OwnD (B : Nat) (w : World) (e : TypeId) (v : Value) (L : List En) : Prop := w.ownsRow B e 2 v L.length (flatD L)
theorem OwnD.nil (B : Nat) (w : World) (e : TypeId) : OwnD B w e (.slice none 0 0) [] := World.ownsRow_nil _ _ _ _
theorem own_belowD {B : Nat} {e : TypeId} {k : Nat} {v : Value} {n : Nat} {xs : List Value} {w w' : World} (h : w.ownsRow B e k v n xs) (hb : Below w.heap.size w w') : w'.ownsRow B e k v n xs := by
 refine ⟨h.1, ?_⟩
 rcases h.2 with hn | ⟨g, cap, cur, rfl, hbg, hg, rest⟩
 ·exact .inl hn
 ·exact .inr ⟨g, cap, cur, rfl, hbg, by rw [hb.block g (Array.getElem?_eq_some_iff.1 hg).1]; exact hg, rest⟩
theorem OwnD.below {B : Nat} {w w' : World} {e : TypeId} {v : Value} {L : List En} (h : OwnD B w e v L) (hb : Below w.heap.size w w') : OwnD B w' e v L := own_belowD h hb
theorem own_lowD {B : Nat} {e : TypeId} {k : Nat} {w : World} {v : Value} {n : Nat} {xs : List Value} (h : w.ownsRow B e k v n xs) {q : Nat} (hq : v.ownBlock = some q) : B <= q := by
 rcases h.2 with ⟨rfl, _⟩ | ⟨g, cap, cur, rfl, hbg, _⟩
 ·cases hq
 ·have : g = q := by injection hq
  omega
theorem OwnD.sl {B : Nat} {w : World} {e : TypeId} {v : Value} {L : List En} (h : OwnD B w e v L) : SlD w v L := by
 have hO := h
 rcases h.2 with ⟨hv, hn⟩ | ⟨g, cap, cur, rfl, hbg, hg, hc, _⟩
 ·exact ⟨none, 0, by rw [hv, hn], by omega, fun j hj => absurd hj (by omega)⟩
 ·refine ⟨_, cap, rfl, hc, fun j hj => ⟨g, 0, rfl, (Array.getElem?_eq_some_iff.1 hg).1, ?_, ?_⟩⟩
  ·rw [Nat.zero_add, World.ownsRow.cellAt hO (j * 2) (by omega)]
   exact (flatD_get L j hj).1
  ·rw [Nat.zero_add, World.ownsRow.cellAt hO (j * 2 + 1) (by omega)]
   exact (flatD_get L j hj).2
theorem OwnD.slice {B : Nat} {w : World} {e : TypeId} {v : Value} {L : List En} (h : OwnD B w e v L) : ∃ ao c, v = .slice ao L.length c := by
 rcases h.2 with ⟨hv, hn⟩ | ⟨g, cap, cur, hv, _⟩
 ·exact ⟨none, 0, by rw [hv, hn]⟩
 ·exact ⟨_, cap, hv⟩
theorem two_cellD {w : World} {t : TypeId} {x y : Value} {g : Nat} (hg : w.heap.size = g) : ∀ (j : Nat) (u : Value), [x, y][j]? = some u -> (w.alloc (.cells #[x, y] t)).cell? ((⟨g, 0, none⟩ : Addr).add j) = some u := by
 subst hg
 intro j u hu
 rw [add_atD, Nat.zero_add, cell_atD (heap_newD ..)]
 rw [<- hu]; simp
theorem two_oneD {a b : ByteArray} : ∀ u ∈ [Value.string a, Value.string b], u.oneCell' = true := by
 intro u hu
 simp only [List.mem_cons, List.not_mem_nil, or_false] at hu
 rcases hu with rfl | rfl <;> rfl
set_option maxHeartbeats 4000000 in
theorem xalike_any (a b : ByteArray) (w : World) (ha : a.size <= 9223372036854775807) (hb : b.size <= 9223372036854775807) : Calls Try.prog 44 #[.string a, .string b] w fun e w' => e = .returned (.int .i64 (alike a.data.toList b.data.toList : Nat)) /\ Below w.heap.size w w' := by
 obtain ⟨h1, h2⟩ := alike_le a.data.toList b.data.toList
 rw [str_len] at h1 h2
 have HN : Hid (∀ n (hn : n <= alike a.data.toList b.data.toList) (g1 : n < a.size) (g2 : n < b.size), (a[n] = b[n] ↔ n < alike a.data.toList b.data.toList)) := fun n hn g1 g2 => alike_next _ _ n hn (by simpa using g1) (by simpa using g2)
 generalize alike a.data.toList b.data.toList = m at *
 go_enter Try.func44, Try.ntmps44
 go_wp2_with fail
 go_loopw [5] (fun nv wr => ∃ n : Nat, n <= m /\ nv = .int .i64 (n : Int) /\ Hid (Below w.heap.size w wr)) (fun nv _ => m - (intOf nv).toNat)
 case atStart => exact ⟨0, Nat.zero_le _, rfl, Below.refl _ _⟩
 case round =>
  obtain ⟨n, hn, rfl, HB⟩ := hrel
  have HD : Hid (∀ nq, Below w.heap.size w (wr.drewN nq)) := fun nq => by have := HB.out; exact ⟨this.os, this.tape, this.output, this.size, this.block⟩
  have h3 : 0 <= (n : Int) := by omega
  have h4 : (n : Int).toNat = n := rfl
  by_cases ha1 : n < a.size
  ·have haz : (n : Int) < (a.size : Int) := by omega
   by_cases hb1 : n < b.size
   ·have hbz : (n : Int) < (b.size : Int) := by omega
    have hE := HN.out n hn ha1 hb1
    by_cases he : a[n] = b[n]
    ·have hlt := hE.1 he
     have he2 : ((a[n].toNat : Int) == (b[n].toNat : Int)) = true := by rw [he]; simp
     go_wp2_with fail
     go_quiet (fail)
     go_wp2_with fail
     go_roundw
     case rel => exact ⟨n + 1, by omega, by go_num, HD.out nq⟩
     case measure => simp [intOf]; omega
    ·have hmn : n = m := by
      have : ¬ n < m := fun h => he (hE.2 h)
      omega
     subst hmn
     have he2 : ((a[n].toNat : Int) == (b[n].toNat : Int)) = false := beq_eq_false_iff_ne.2 fun h => he (UInt8.toNat_inj.1 (by omega))
     go_wp2_with fail
     go_quiet (fail)
     go_wp2_with fail
     go_ret
     exact ⟨rfl, HD.out nq⟩
   ·obtain rfl : n = m := by omega
    have hbz : ¬ (n : Int) < (b.size : Int) := by omega
    go_wp2_with fail
    go_quiet (fail)
    go_wp2_with fail
    go_ret
    exact ⟨rfl, HD.out nq⟩
  ·obtain rfl : n = m := by omega
   have haz : ¬ (n : Int) < (a.size : Int) := by omega
   go_wp2_with fail
   go_quiet (fail)
   go_wp2_with fail
   go_ret
   exact ⟨rfl, HD.out nq⟩
set_option maxHeartbeats 2000000 in
theorem xdnumber_any (n : Nat) (w : World) (h1 : n < 9223372036854775808) : Calls Try.prog 37 #[.int .i64 (n : Int)] w fun e w' => e = .returned (.string (bs (varL n))) /\ Below w.heap.size w w' := by
 have C := Lib.hid fun W => Fr.rvar_any n W (by omega)
 have hw : IntKind.u64.wrap (n : Int) = (n : Int) := by rw [IntKind.wrap_u64]; omega
 generalize bs (varL n) = t at *
 go_enter Try.func37, Try.ntmps37
 go_wp2_with fail
 refine (C.out _).mono ?_
 rintro e w1 ⟨rfl, hb⟩
 have HB := Lib.hid hb; clear hb
 go_wp2_with fail
 go_ret
 exact ⟨rfl, HB.out⟩
theorem pair_upto {L : List En} {n : Nat} (h : n + 1 <= L.length) (h1 : (L.take n).Pairwise upE) (h2 : ∀ hp : 0 < n, upE L[n - 1] L[n]) : (L.take (n + 1)).Pairwise upE := by
 rw [List.take_succ_eq_append_getElem h]
 refine List.pairwise_append.2 ⟨h1, List.pairwise_singleton .., fun x hx y hy => ?_⟩
 rw [List.mem_singleton.1 hy]
 obtain ⟨k, hk, rfl⟩ := List.mem_iff_getElem.1 hx
 rw [List.length_take] at hk
 rw [List.getElem_take]
 have hp := h2 (by omega)
 by_cases e : k = n - 1
 ·subst e; exact hp
 ·have := List.pairwise_iff_getElem.1 h1 k (n - 1) (by rw [List.length_take]; omega) (by rw [List.length_take]; omega) (by omega)
  rw [List.getElem_take, List.getElem_take] at this
  exact less_trans this hp
theorem right_no {L : List En} {n : Nat} (h : n < L.length) (h1 : ¬ okE L[n] \/ ∃ hp : 0 < n, ¬ upE L[n - 1] L[n]) : ¬ RightD L := by
 rintro ⟨_, g1, g2⟩
 rcases h1 with h1 | ⟨hp, h1⟩
 ·exact h1 (g1 _ (List.getElem_mem h))
 ·exact h1 (List.pairwise_iff_getElem.1 g2 (n - 1) n (by omega) h (by omega))
theorem ok_take {L : List En} {n : Nat} (h : n < L.length) (h1 : ∀ x ∈ L.take n, okE x) (h2 : okE L[n]) : ∀ x ∈ L.take (n + 1), okE x := fun x hx => by
 rw [List.take_succ_eq_append_getElem h] at hx
 rcases List.mem_append.1 hx with hx | hx
 ·exact h1 x hx
 ·rw [List.mem_singleton.1 hx]; exact h2
set_option maxHeartbeats 8000000 in
theorem xdright_any (L : List En) (v : Value) (w : World) (h : SlD w v L) (hn : L.length <= 100000000) (hz : ∀ x ∈ L, x.t.size <= 9223372036854775807 /\ x.v.size <= 9223372036854775807) : Calls Try.prog 14 #[v] w fun e w' => e = .returned (.bool (decide (RightD L))) /\ Below w.heap.size w w' := by
 obtain ⟨ao, c, rfl, _, hc⟩ := h
 have HC := Lib.hid hc
 have HZ := Lib.hid hz
 obtain ⟨n, hl⟩ : ∃ n, L.length = n := ⟨_, rfl⟩
 have HN := Lib.hid hl
 obtain ⟨q, hq⟩ : ∃ q, decide (RightD L) = q := ⟨_, rfl⟩
 have HQ := Lib.hid hq
 rw [hl, hq]
 rw [hl] at hn
 clear hl hc hz hq
 go_enter Try.func14, Try.ntmps14
 go_wp2_with fail
 go_loopw [3] (fun iv wr => ∃ i : Nat, i <= n /\ iv = .int .i64 (i : Int) /\ Hid (Below w.heap.size w wr) /\ Hid ((∀ x ∈ L.take i, okE x) /\ (L.take i).Pairwise upE)) (fun iv _ => n - (intOf iv).toNat)
 case atStart => exact ⟨0, Nat.zero_le _, rfl, Below.refl _ _, fun x hx => by simp at hx, by simp⟩
 case round =>
  obtain ⟨i, hi, rfl, HB, HR⟩ := hrel
  have HD : Hid (∀ nq, Below w.heap.size w (wr.drewN nq)) := fun nq => by have := HB.out; exact ⟨this.os, this.tape, this.output, this.size, this.block⟩
  by_cases hlt : i < n
  ·have hiz : (i : Int) < (n : Int) := by omega
   have hiL : i < L.length := by rw [HN.out]; exact hlt
   obtain ⟨g, off, rfl, hg, h1, h2⟩ := HC.out i hiL
   have x1 := (HB.out.cell (p := ⟨g, _, none⟩) hg).trans h1
   have x2 := (HB.out.cell (p := ⟨g, _, none⟩) hg).trans h2
   obtain ⟨z1, z2⟩ := HZ.out L[i] (List.getElem_mem hiL)
   have HNo : Hid (¬ okE L[i] \/ (∃ hp : 0 < i, ¬ upE L[i - 1] L[i]) -> q = false) := fun h => by
    rw [<- HQ.out]; exact decide_eq_false (right_no hiL h)
   have HYes : Hid (okE L[i] -> (∀ hp : 0 < i, upE L[i - 1] L[i]) -> (∀ x ∈ L.take (i + 1), okE x) /\ (L.take (i + 1)).Pairwise upE) := fun h1 h2 => ⟨ok_take hiL HR.out.1 h1, pair_upto hiL HR.out.2 h2⟩
   have HP : Hid (∀ hp : 0 < i, wr.cell? ⟨g, off + (i - 1) * 2, none⟩ = some (.string L[i - 1].t)) := fun hp => by
    obtain ⟨g', off', e, hg', h1', _⟩ := HC.out (i - 1) (by omega)
    cases e
    exact (HB.out.cell (p := ⟨g, _, none⟩) hg').trans h1'
   have HOk : Hid (okE L[i] ↔ 1 <= L[i].t.size /\ L[i].t.size <= 40 /\ L[i].v.size <= 4194304) := Iff.rfl
   have HUp : Hid (∀ hp : 0 < i, upE L[i - 1] L[i] ↔ Op.bytesLess L[i - 1].t.toList L[i].t.toList = true) := fun hp => Iff.rfl
   have hi1 : i - 1 < L.length := by omega
   clear h1 h2 hg
   generalize L[i] = x at *
   have h3 : 0 <= (i : Int) := by omega
   have h4 : (i : Int).toNat = i := rfl
   by_cases z3 : x.t.size < 1
   ·have HF := Lib.hid (HNo.out (.inl fun h => by have := (HOk.out.1 h).1; omega))
    have b0 : decide ((x.t.size : Int) < 1) = true := decide_eq_true (by omega)
    go_wp2_with fail
    go_quiet (fail)
    go_wp2_with fail
    go_ret
    exact ⟨congrArg (fun b => Ending.returned (.bool b)) HF.out.symm, HD.out nq⟩
   ·have b0 : decide ((x.t.size : Int) < 1) = false := decide_eq_false (by omega)
    by_cases z4 : 40 < x.t.size
    ·have HF := Lib.hid (HNo.out (.inl fun h => by have := (HOk.out.1 h).2.1; omega))
     have b1 : decide ((40 : Int) < (x.t.size : Int)) = true := decide_eq_true (by omega)
     go_wp2_with fail
     go_quiet (fail)
     go_wp2_with fail
     go_ret
     exact ⟨congrArg (fun b => Ending.returned (.bool b)) HF.out.symm, HD.out nq⟩
    ·have b1 : decide ((40 : Int) < (x.t.size : Int)) = false := decide_eq_false (by omega)
     by_cases z5 : 4194304 < x.v.size
     ·have HF := Lib.hid (HNo.out (.inl fun h => by have := (HOk.out.1 h).2.2; omega))
      have b2 : decide ((4194304 : Int) < (x.v.size : Int)) = true := decide_eq_true (by omega)
      go_wp2_with fail
      go_quiet (fail)
      go_wp2_with fail
      go_ret
      exact ⟨congrArg (fun b => Ending.returned (.bool b)) HF.out.symm, HD.out nq⟩
     ·have b2 : decide ((4194304 : Int) < (x.v.size : Int)) = false := decide_eq_false (by omega)
      have HOx : Hid (okE x) := HOk.out.2 ⟨by omega, by omega, by omega⟩
      by_cases hp : i = 0
      ·have hip : ¬ (0 : Int) < (i : Int) := by omega
       have hpb : decide (0 < i) = false := decide_eq_false (by omega)
       have hip2 : decide ((0 : Int) < (i : Int)) = false := decide_eq_false hip
       have HF := Lib.hid (HYes.out HOx.out (fun h => absurd h (by omega)))
       clear hip hp
       go_wp2_with fail
       go_quiet (fail)
       go_wp2_with fail
       go_roundw
       case rel => exact ⟨i + 1, by omega, by go_num, HD.out nq, HF.out⟩
       case measure => simp [intOf]; omega
      ·have y1 := HP.out (by omega)
       have hip : (0 : Int) < (i : Int) := by omega
       have hpb : decide (0 < i) = true := decide_eq_true (by omega)
       have h5 : 0 <= (i : Int) - 1 := by omega
       have h6 : ((i : Int) - 1).toNat = i - 1 := by omega
       have h7 : (i : Int) - 1 < (n : Int) := by omega
       have h8 : IntKind.i64.wrap ((i : Int) - 1) = (i : Int) - 1 := IntWalk.i64_in _ (by omega)
       have HU := Lib.hid (HUp.out (by omega))
       by_cases z6 : Op.bytesLess L[i - 1].t.toList x.t.toList = true
       ·have HF := Lib.hid (HYes.out HOx.out (fun _ => HU.out.2 z6))
        generalize L[i - 1].t = yt at *
        clear HU HUp
        go_wp2_with fail
        go_quiet (fail)
        go_wp2_with fail
        go_roundw
        case rel => exact ⟨i + 1, by omega, by go_num, HD.out nq, HF.out⟩
        case measure => simp [intOf]; omega
       ·have HF := Lib.hid (HNo.out (.inr ⟨by omega, fun h => z6 (HU.out.1 h)⟩))
        have z7 : Op.bytesLess L[i - 1].t.toList x.t.toList = false := by simpa using z6
        generalize L[i - 1].t = yt at *
        clear HU HUp z6
        go_wp2_with fail
        go_quiet (fail)
        go_wp2_with fail
        go_ret
        exact ⟨congrArg (fun b => Ending.returned (.bool b)) HF.out.symm, HD.out nq⟩
  ·obtain rfl : i = n := by omega
   have hiz : ¬ (i : Int) < (i : Int) := by omega
   have HF : Hid (q = decide (i <= 1048576)) := by
    have h1 := HR.out.1
    have h2 := HR.out.2
    rw [List.take_of_length_le (by rw [HN.out]; exact Nat.le_refl _)] at h1 h2
    show _ = _
    rw [<- HQ.out, decide_eq_decide]
    exact ⟨fun h => by rw [<- HN.out]; exact h.1, fun h => ⟨by rw [HN.out]; exact h, h1, h2⟩⟩
   have hz : decide ((i : Int) <= 1048576) = decide (i <= 1048576) := by rw [decide_eq_decide]; omega
   go_wp2_with fail
   go_ret
   exact ⟨congrArg (fun b => Ending.returned (.bool b)) HF.out.symm, HB.out⟩
end Go.Proofs.Ytjfclpicoamfaaa.Di
/- The document's block and bytes of entries. -/
set_option maxRecDepth 100000
namespace Go.Proofs.Ytjfclpicoamfaaa.Di
open Go.RowKit
open Fr (varL textL rdV bs)
def prevT (L : List En) (i : Nat) : List UInt8 := match (L.take i).getLast? with
 | some y => y.t.data.toList
 | none => []
theorem prev_zero (L : List En) : prevT L 0 = [] := rfl
theorem prev_pos {L : List En} {i : Nat} (h : i < L.length) (hp : 0 < i) : prevT L i = L[i - 1].t.data.toList := by
 unfold prevT
 obtain ⟨k, rfl⟩ : ∃ k, i = k + 1 := ⟨i - 1, by omega⟩
 rw [List.take_succ_eq_append_getElem (show k < L.length by omega), List.getLast?_concat]
 rfl
theorem blk_snoc (x : En) : ∀ (p : List UInt8) (M : List En), blkL p (M ++ [x]) = blkL p M ++ entL (match M.getLast? with | some y => y.t.data.toList | none => p) x
 | p, [] => by show entL p x ++ [] = [] ++ entL p x; simp
 | p, y :: r => by
  rw [List.cons_append, blkL, blkL, blk_snoc x y.t.data.toList r, List.append_assoc]
  congr 3
  cases r with
  | nil => rfl
  | cons z q =>
   rw [List.getLast?_cons_cons]
   cases hq : (z :: q).getLast? with
   | none => simp at hq
   | some z => rfl
theorem blk_take {L : List En} {i : Nat} (h : i < L.length) : blkL [] (L.take (i + 1)) = blkL [] (L.take i) ++ entL (prevT L i) L[i] := by
 rw [List.take_succ_eq_append_getElem h, blk_snoc]
 rfl
def Sml (L : List En) : Prop := ∀ x ∈ L, okE x /\ x.v.size <= 1000000
theorem blk_len : ∀ (p : List UInt8) (L : List En), Sml L -> (blkL p L).length <= 1000100 * L.length
 | _, [], _ => Nat.le_refl _
 | p, x :: r, h => by
  have h1 := entL_len p (h x (by simp)).1
  have h2 := blk_len x.t.data.toList r (fun y hy => h y (by simp [hy]))
  obtain ⟨⟨_, ho1, _⟩, ho2⟩ := h x (by simp)
  rw [blkL, List.length_append, List.length_cons]
  omega
set_option maxHeartbeats 8000000 in
theorem xdblock_any (L : List En) (v : Value) (w : World) (h : SlD w v L) (hn : L.length <= 1000) (hs : Sml L) : Calls Try.prog 35 #[v] w fun e w' => e = .returned (.string (bs (blkL [] L))) /\ Below w.heap.size w w' := by
 obtain ⟨ao, c, rfl, _, hc⟩ := h
 have HC := Lib.hid hc
 have HSm := Lib.hid hs
 obtain ⟨n, hl⟩ : ∃ n, L.length = n := ⟨_, rfl⟩
 have HN := Lib.hid hl
 have HLen : Hid (∀ i, i <= n -> (blkL [] (L.take i)).length <= 1000100000) := fun i hi => by
  have := blk_len [] (L.take i) (fun x hx => hs x (List.mem_of_mem_take hx))
  rw [List.length_take] at this
  omega
 rw [hl] at hn ⊢
 clear hl hc hs
 go_enter Try.func35, Try.ntmps35
 go_wp2_with fail
 go_loopw [3, 4] (fun sv iv wr => ∃ (i : Nat) (s : ByteArray), i <= n /\ iv = .int .i64 (i : Int) /\ sv = .string s /\ s.size <= 1000100000 /\ Hid (s = bs (blkL [] (L.take i))) /\ Hid (Below w.heap.size w wr)) (fun _ iv _ => n - (intOf iv).toNat)
 case atStart => exact ⟨0, ⟨#[]⟩, Nat.zero_le _, rfl, rfl, Nat.zero_le _, rfl, Below.refl _ _⟩
 case round =>
  obtain ⟨i, s, hi, rfl, rfl, hsz, HT, HB⟩ := hrel
  by_cases hlt : i < n
  ·have hiz : (i : Int) < (n : Int) := by omega
   have hiL : i < L.length := by rw [HN.out]; exact hlt
   obtain ⟨g, off, rfl, hg, h1, h2⟩ := HC.out i hiL
   have HX : Hid (∀ W, Below w.heap.size w W -> W.cell? ⟨g, off + i * 2, none⟩ = some (.string L[i].t) /\ W.cell? ⟨g, off + i * 2 + 1, none⟩ = some (.string L[i].v)) := fun W hW => ⟨(hW.cell (p := ⟨g, _, none⟩) hg).trans h1, (hW.cell (p := ⟨g, _, none⟩) hg).trans h2⟩
   have HP : Hid (∀ hp : 0 < i, ∀ W, Below w.heap.size w W -> W.cell? ⟨g, off + (i - 1) * 2, none⟩ = some (.string L[i - 1].t)) := fun hp W hW => by
    obtain ⟨g', off', e, hg', h1', _⟩ := HC.out (i - 1) (by omega)
    cases e
    exact (hW.cell (p := ⟨g, _, none⟩) hg').trans h1'
   have HBk := Lib.hid (blk_take hiL)
   have HPv : Hid (∀ hp : 0 < i, prevT L i = L[i - 1].t.data.toList) := fun hp => prev_pos hiL hp
   obtain ⟨⟨o1, o2, o3⟩, o4⟩ := HSm.out L[i] (List.getElem_mem hiL)
   have HP4 : Hid (∀ hp : 0 < i, L[i - 1].t.size <= 40) := fun hp => (HSm.out L[i - 1] (List.getElem_mem (by omega))).1.2.1
   have hlen2 := HLen.out (i + 1) (by omega)
   have hi1 : i - 1 < L.length := by omega
   clear h1 h2 hg
   obtain ⟨x, hx⟩ : ∃ x, L[i] = x := ⟨_, rfl⟩
   rw [hx] at HX HBk o1 o2 o3 o4
   clear hx
   have h3 : 0 <= (i : Int) := by omega
   have h4 : (i : Int).toNat = i := rfl
   obtain ⟨k, hk⟩ : ∃ k, alike (prevT L i) x.t.data.toList = k := ⟨_, rfl⟩
   have hkx : k <= x.t.size := by rw [<- hk, <- str_len x.t]; exact (alike_le _ _).2
   have HEnt : Hid (s ++ bs (varL k) ++ bs (textL (x.t.extract k x.t.size).data.toList) ++ bs (textL x.v.data.toList) = bs (blkL [] (L.take (i + 1)))) := by
    show _ = _
    rw [HBk.out, HT.out, bs_app, bs_app, bs_app, entL, hk, Fr.ext_drop, bs_list, List.append_assoc, List.append_assoc]
   have hes : (x.t.extract k x.t.size).size <= 40 := by
    rw [Fr.ext_drop, Fr.bs_size, List.length_drop, str_len]; omega
   have CN := Lib.hid (fun W => xdnumber_any k W (by omega))
   have CT := Lib.hid (fun W => Fr.rtext_any (x.t.extract k x.t.size) W (by omega))
   have CV := Lib.hid (fun W => Fr.rtext_any x.v W o4)
   have z1 : (bs (varL k)).size <= 10 := by rw [Fr.bs_size]; exact varL_le _ (by omega)
   have z2 : (bs (textL (x.t.extract k x.t.size).data.toList)).size <= 50 := by
    rw [Fr.bs_size]
    have := textL_len (x.t.extract k x.t.size).data.toList (by rw [str_len]; omega)
    rw [str_len] at this
    omega
   have z3 : (bs (textL x.v.data.toList)).size <= 1000010 := by
    rw [Fr.bs_size]
    have := textL_len x.v.data.toList (by rw [str_len]; omega)
    rw [str_len] at this
    omega
   have HSz : Hid ((bs (blkL [] (L.take (i + 1)))).size <= 1000100000) := by show _ <= _; rw [Fr.bs_size]; exact hlen2
   generalize bs (varL k) = NB at *
   generalize bs (textL (x.t.extract k x.t.size).data.toList) = TB at *
   generalize bs (textL x.v.data.toList) = VB at *
   have a1 : ¬ 9223372036854775807 < s.size + NB.size := by omega
   have a2 : ¬ 9223372036854775807 < s.size + NB.size + TB.size := by omega
   have a3 : ¬ 9223372036854775807 < s.size + NB.size + TB.size + VB.size := by omega
   have hk0 : 0 <= (k : Int) := by omega
   have hk1 : (k : Int).toNat = k := rfl
   have hk2 : (k : Int) <= (x.t.size : Int) := by omega
   have HKp : Hid (∀ W W', (Below w.heap.size w W /\ W.cell? ⟨g, off + i * 2, none⟩ = some (.string x.t) /\ W.cell? ⟨g, off + i * 2 + 1, none⟩ = some (.string x.v)) -> Below W.heap.size W W' -> (Below w.heap.size w W' /\ W'.cell? ⟨g, off + i * 2, none⟩ = some (.string x.t) /\ W'.cell? ⟨g, off + i * 2 + 1, none⟩ = some (.string x.v))) := fun W W' q1 q2 => by
    have q3 := q1.1.trans (q2.mono q1.1.size)
    exact ⟨q3, HX.out _ q3⟩
   have HKd : Hid (∀ W, (Below w.heap.size w W /\ W.cell? ⟨g, off + i * 2, none⟩ = some (.string x.t) /\ W.cell? ⟨g, off + i * 2 + 1, none⟩ = some (.string x.v)) -> (Below w.heap.size w W.drew /\ W.drew.cell? ⟨g, off + i * 2, none⟩ = some (.string x.t) /\ W.drew.cell? ⟨g, off + i * 2 + 1, none⟩ = some (.string x.v))) := fun W q1 => ⟨q1.1.drew, q1.2⟩
   obtain ⟨x1, x2⟩ := HX.out wr HB.out
   have HS0 : Hid (Below w.heap.size w wr.drew /\ wr.drew.cell? ⟨g, off + i * 2, none⟩ = some (.string x.t) /\ wr.drew.cell? ⟨g, off + i * 2 + 1, none⟩ = some (.string x.v)) := ⟨HB.out.drew, x1, x2⟩
   by_cases hp : i = 0
   ·have hk0' : k = 0 := by rw [<- hk, hp, prev_zero, alike_nil]
    have hip : ¬ (0 : Int) < (i : Int) := by omega
    clear hk hp
    subst hk0'
    rw [ByteArray.extract_zero_size] at CT
    go_wp2_with fail
    go_region_held3 (fun W : World => Below w.heap.size w W /\ W.cell? ⟨g, off + i * 2, none⟩ = some (.string x.t) /\ W.cell? ⟨g, off + i * 2 + 1, none⟩ = some (.string x.v))
     (first | exact HKd.out _ (by assumption) | exact HS0.out | exact HKp.out _ _ (by assumption) (by assumption))
     (first
      | (go_at_call 37; refine (CN.out _).mono ?_; rintro e w' ⟨rfl, hbx⟩)
      | (go_at_call 36; (first | (refine (CT.out _).mono ?_) | (refine (CV.out _).mono ?_)); rintro e w' ⟨rfl, hbx⟩))
    rename_i hHeld
    have HBF := Lib.hid hHeld.1
    clear hHeld hbx a1 a2 a3
    go_wp2_with fail
    go_roundw
    case rel => exact ⟨i + 1, _, by omega, by go_num, rfl, by rw [HEnt.out]; exact HSz.out, HEnt.out, HBF.out⟩
    case measure => simp [intOf]; omega
   ·have hip : (0 : Int) < (i : Int) := by omega
    obtain ⟨j, hj⟩ : ∃ j, i - 1 = j := ⟨_, rfl⟩
    have h8 : IntKind.i64.wrap ((i : Int) - 1) = (j : Int) := by rw [show (i : Int) - 1 = (j : Int) by omega]; exact IntWalk.i64_in _ (by omega)
    have h5 : 0 <= (j : Int) := by omega
    have h6 : (j : Int).toNat = j := rfl
    have h7 : (j : Int) < (n : Int) := by omega
    have HY := Lib.hid (HP.out (by omega))
    have CA := Lib.hid (fun W => xalike_any L[i - 1].t x.t W (by have := HP4.out (by omega); omega) (by omega))
    rw [<- HPv.out (by omega), hk] at CA
    generalize L[i - 1].t = yt at *
    rw [hj] at HY
    have y1 := HY.out wr HB.out
    have HKq : Hid (∀ W W', (Below w.heap.size w W /\ W.cell? ⟨g, off + j * 2, none⟩ = some (.string yt) /\ W.cell? ⟨g, off + i * 2, none⟩ = some (.string x.t)) -> Below W.heap.size W W' -> (Below w.heap.size w W' /\ W'.cell? ⟨g, off + j * 2, none⟩ = some (.string yt) /\ W'.cell? ⟨g, off + i * 2, none⟩ = some (.string x.t))) := fun W W' q1 q2 => by
     have q3 := q1.1.trans (q2.mono q1.1.size)
     exact ⟨q3, HY.out _ q3, (HX.out _ q3).1⟩
    have HS7 : Hid (Below w.heap.size w wr.drew /\ wr.drew.cell? ⟨g, off + j * 2, none⟩ = some (.string yt) /\ wr.drew.cell? ⟨g, off + i * 2, none⟩ = some (.string x.t)) := ⟨HB.out.drew, y1, x1⟩
    clear hk hp hj
    go_wp2_with fail
    go_region_held3 (fun W : World => Below w.heap.size w W /\ W.cell? ⟨g, off + j * 2, none⟩ = some (.string yt) /\ W.cell? ⟨g, off + i * 2, none⟩ = some (.string x.t))
     (first | exact HS7.out | exact HKq.out _ _ (by assumption) (by assumption))
     (first | (go_at_call 44; refine (CA.out _).mono ?_; rintro e w2 ⟨rfl, hbx⟩))
    rename_i hHeld7
    have HB2 := Lib.hid hHeld7.1
    obtain ⟨x1b, x2b⟩ := HX.out _ HB2.out
    clear hHeld7 hbx x1 x2 y1 h5 h6 h7 h8 HS0 HS7
    have HS0 : Hid (Below w.heap.size w w2.drew /\ w2.drew.cell? ⟨g, off + i * 2, none⟩ = some (.string x.t) /\ w2.drew.cell? ⟨g, off + i * 2 + 1, none⟩ = some (.string x.v)) := ⟨HB2.out.drew, x1b, x2b⟩
    go_wp2_with fail
    go_region_held3 (fun W : World => Below w.heap.size w W /\ W.cell? ⟨g, off + i * 2, none⟩ = some (.string x.t) /\ W.cell? ⟨g, off + i * 2 + 1, none⟩ = some (.string x.v))
     (first | exact HKd.out _ (by assumption) | exact HS0.out | exact HKp.out _ _ (by assumption) (by assumption))
     (first
      | (go_at_call 37; refine (CN.out _).mono ?_; rintro e w' ⟨rfl, hbx⟩)
      | (go_at_call 36; (first | (refine (CT.out _).mono ?_) | (refine (CV.out _).mono ?_)); rintro e w' ⟨rfl, hbx⟩))
    rename_i hHeld
    have HBF := Lib.hid hHeld.1
    clear hHeld hbx a1 a2 a3
    go_wp2_with fail
    go_roundw
    case rel => exact ⟨i + 1, _, by omega, by go_num, rfl, by rw [HEnt.out]; exact HSz.out, HEnt.out, HBF.out⟩
    case measure => simp [intOf]; omega
  ·obtain rfl : i = n := by omega
   have hiz : ¬ (i : Int) < (i : Int) := by omega
   have HF : Hid (s = bs (blkL [] L)) := by
    have := HT.out
    rw [List.take_of_length_le (by rw [HN.out]; exact Nat.le_refl _)] at this
    exact this
   go_wp2_with fail
   go_ret
   exact ⟨congrArg (fun t => Ending.returned (.string t)) HF.out, HB.out⟩
end Go.Proofs.Ytjfclpicoamfaaa.Di
/- The document's bytes of entries. -/
set_option maxRecDepth 100000
namespace Go.Proofs.Ytjfclpicoamfaaa.Di
open Go.RowKit
open Fr (varL textL rdV bs)
def headT : List En -> List UInt8
 | x :: _ => textL x.t.data.toList
 | [] => []
def grp (L : List En) (q : Nat) : List En := (L.drop (16 * q)).take 16
def idxG (L : List En) : Nat -> List UInt8
 | 0 => []
 | q + 1 => idxG L q ++ (headT (L.drop (16 * q)) ++ varL (blkL [] (grp L q)).length)
def allG (L : List En) : Nat -> List UInt8
 | 0 => []
 | q + 1 => allG L q ++ blkL [] (grp L q)
theorem idx_step {M : List En} (h : M ≠ []) : idxL M = headT M ++ (varL (blkL [] (M.take 16)).length ++ idxL (M.drop 16)) := by
 cases M with
 | nil => exact absurd rfl h
 | cons x r =>
  rw [idxL, dif_neg (by simp)]
  rfl
theorem all_step {M : List En} (h : M ≠ []) : allD M = blkL [] (M.take 16) ++ allD (M.drop 16) := by
 rw [allD, dif_neg h]
theorem drop_ne {L : List En} {k : Nat} (h : k < L.length) : L.drop k ≠ [] := fun e => by
 have := congrArg List.length e
 rw [List.length_drop, List.length_nil] at this
 omega
theorem idxG_rest (L : List En) : ∀ q, (q = 0 \/ 16 * (q - 1) < L.length) -> idxG L q ++ idxL (L.drop (16 * q)) = idxL L /\ allG L q ++ allD (L.drop (16 * q)) = allD L
 | 0, _ => ⟨rfl, rfl⟩
 | q + 1, h => by
  have hq : 16 * q < L.length := by rcases h with h | h <;> omega
  obtain ⟨i1, i2⟩ := idxG_rest L q (by omega)
  rw [idx_step (drop_ne hq), List.drop_drop] at i1
  rw [all_step (drop_ne hq), List.drop_drop] at i2
  rw [show 16 * (q + 1) = 16 * q + 16 by omega]
  exact ⟨by rw [<- i1, idxG]; simp only [List.append_assoc]; rfl, by rw [<- i2, allG]; simp only [List.append_assoc]; rfl⟩
theorem idxG_all (L : List En) (q : Nat) (h1 : q = 0 \/ 16 * (q - 1) < L.length) (h2 : L.length <= 16 * q) : idxG L q = idxL L /\ allG L q = allD L := by
 obtain ⟨i1, i2⟩ := idxG_rest L q h1
 rw [List.drop_eq_nil_of_le h2, idxL, dif_pos rfl, List.append_nil] at i1
 rw [List.drop_eq_nil_of_le h2, allD, dif_pos rfl, List.append_nil] at i2
 exact ⟨i1, i2⟩
theorem Sml.sub {L M : List En} (h : Sml L) (hs : ∀ x ∈ M, x ∈ L) : Sml M := fun x hx => h x (hs x hx)
theorem grp_sub {L : List En} {q : Nat} : ∀ x ∈ grp L q, x ∈ L := fun _ hx => List.mem_of_mem_drop (List.mem_of_mem_take hx)
set_option maxHeartbeats 8000000 in
theorem xdbytes_any (L : List En) (v : Value) (w : World) (h : SlD w v L) (hn : L.length <= 2000000) (hs : Sml L) : Calls Try.prog 27 #[v] w fun e w' => e = .returned (.string (bs (bytesD L))) /\ Below w.heap.size w w' := by
 obtain ⟨ao, c, rfl, hlc, hc⟩ := h
 have HPart := Lib.hid (fun W (hW : Below w.heap.size w W) => (SlD.part (SlD.below (⟨ao, c, rfl, hlc, hc⟩ : SlD w (.slice ao L.length c) L) hW)))
 have HC := Lib.hid hc
 have HSm := Lib.hid hs
 obtain ⟨n, hl⟩ : ∃ n, L.length = n := ⟨_, rfl⟩
 have HN := Lib.hid hl
 have HE : Hid (∀ q, (q = 0 \/ 16 * (q - 1) < n) -> n <= 16 * q -> bytesD L = varL n ++ (idxG L q ++ allG L q)) := fun q h1 h2 => by
  obtain ⟨i1, i2⟩ := idxG_all L q (by rw [hl]; exact h1) (by rw [hl]; exact h2)
  unfold bytesD
  rw [hl, i1, i2]
 have CN := Lib.hid (fun W (k : Nat) (hk : k < 9223372036854775808) => xdnumber_any k W hk)
 rw [hl] at hn hlc ⊢
 clear hl hc hs
 go_enter Try.func27, Try.ntmps27
 go_wp2_with fail
 go_loopw [3, 4, 5] (fun sv av iv wr => ∃ (q : Nat) (s a : ByteArray), iv = .int .i64 ((16 * q : Nat) : Int) /\ (q = 0 \/ 16 * (q - 1) < n) /\ sv = .string s /\ av = .string a /\ s.size <= 70 * q /\ a.size <= 16001600 * q /\ Hid (s = bs (idxG L q) /\ a = bs (allG L q)) /\ Hid (Below w.heap.size w wr)) (fun _ _ iv _ => n + 16 - (intOf iv).toNat)
 case atStart => exact ⟨0, ⟨#[]⟩, ⟨#[]⟩, rfl, .inl rfl, rfl, rfl, Nat.zero_le _, Nat.zero_le _, ⟨rfl, rfl⟩, Below.refl _ _⟩
 case round =>
  obtain ⟨q, s, a, rfl, hq, rfl, rfl, hs, ha, HT, HB⟩ := hrel
  obtain ⟨i, hi⟩ : ∃ i, 16 * q = i := ⟨_, rfl⟩
  rw [hi]
  by_cases hlt : i < n
  ·have hiz : (i : Int) < (n : Int) := by omega
   have hiL : i < L.length := by rw [HN.out]; exact hlt
   obtain ⟨g, off, rfl, hg, h1, h2⟩ := HC.out i hiL
   have HX : Hid (∀ W, Below w.heap.size w W -> W.cell? ⟨g, off + i * 2, none⟩ = some (.string L[i].t)) := fun W hW => (hW.cell (p := ⟨g, _, none⟩) hg).trans h1
   obtain ⟨b, hb⟩ : ∃ b, min n (i + 16) = b := ⟨_, rfl⟩
   have hib : i < b /\ b <= n /\ b <= i + 16 := by omega
   have hG : (L.drop i).take (b - i) = grp L q := by
    unfold grp
    rw [hi]
    by_cases h16 : i + 16 <= n
    ·rw [show b - i = 16 by omega]
    ·rw [show b - i = n - i by omega, List.take_of_length_le (by rw [List.length_drop, HN.out]; exact Nat.le_refl _), List.take_of_length_le (by rw [List.length_drop, HN.out]; omega)]
   have HGs : Hid (∀ W, Below w.heap.size w W -> SlD W (.slice (some ⟨g, off + i * 2, none⟩) (b - i) (c - i)) (grp L q)) := fun W hW => by
    obtain ⟨g', off', e, hs'⟩ := HPart.out W hW i b (by omega) (by rw [HN.out]; omega) hib.1
    cases e
    rw [<- hG]
    exact hs'
   have HgS : Hid (Sml (grp L q)) := HSm.out.sub grp_sub
   have hgl : (grp L q).length <= 16 := by unfold grp; rw [List.length_take]; omega
   have CB := Lib.hid (fun W hW => xdblock_any (grp L q) _ W (HGs.out W hW) (by omega) HgS.out)
   have hbl := blk_len [] (grp L q) HgS.out
   obtain ⟨⟨o1, o2, o3⟩, o4⟩ := HSm.out L[i] (List.getElem_mem hiL)
   have HId : Hid (idxG L (q + 1) = idxG L q ++ (textL L[i].t.data.toList ++ varL (blkL [] (grp L q)).length)) := by
    show _ = _
    rw [idxG, hi, List.drop_eq_getElem_cons hiL]
    rfl
   have HAl : Hid (allG L (q + 1) = allG L q ++ blkL [] (grp L q)) := rfl
   obtain ⟨x, hx⟩ : ∃ x, L[i].t = x := ⟨_, rfl⟩
   rw [hx] at HX HId o1 o2
   have hxs : x.size <= 40 := o2
   obtain ⟨O, hO⟩ : ∃ O, bs (blkL [] (grp L q)) = O := ⟨_, rfl⟩
   have hOz : O.size = (blkL [] (grp L q)).length := by rw [<- hO, Fr.bs_size]
   have hOs : O.size <= 16001600 := by rw [hOz]; omega
   rw [hO] at CB
   have HO := Lib.hid hO
   rw [<- hOz] at HId
   have CT := Lib.hid (fun W => Fr.rtext_any x W (by omega))
   have z1 : (bs (textL x.data.toList)).size <= 50 := by
    rw [Fr.bs_size]
    have := textL_len x.data.toList (by rw [str_len]; omega)
    rw [str_len] at this
    omega
   have z2 : (bs (varL O.size)).size <= 10 := by rw [Fr.bs_size]; exact varL_le _ (by omega)
   have CO := Lib.hid (fun W => CN.out W O.size (by omega))
   have HIn : Hid (s ++ bs (textL x.data.toList) ++ bs (varL O.size) = bs (idxG L (q + 1))) := by
    show _ = _
    rw [HId.out, HT.out.1, bs_app, bs_app, List.append_assoc]
   have HAn : Hid (a ++ O = bs (allG L (q + 1))) := by show _ = _; rw [HAl.out, HT.out.2, <- HO.out, bs_app]
   generalize bs (textL x.data.toList) = TB at *
   generalize bs (varL O.size) = NB at *
   have hrun1 := fun (W : World) => run_string_add_sum (P := Try.prog) W s TB (by omega)
   obtain ⟨s1, hs1⟩ : ∃ s1, s ++ TB = s1 := ⟨_, rfl⟩
   have hs1s : s1.size <= 70 * q + 50 := by rw [<- hs1, ByteArray.size_append]; omega
   rw [hs1] at hrun1 HIn
   have hrun2 := fun (W : World) => run_string_add_sum (P := Try.prog) W s1 NB (by omega)
   obtain ⟨s2, hs2⟩ : ∃ s2, s1 ++ NB = s2 := ⟨_, rfl⟩
   have hs2s : s2.size <= 70 * (q + 1) := by rw [<- hs2, ByteArray.size_append]; omega
   rw [hs2] at hrun2 HIn
   have hrun3 := fun (W : World) => run_string_add_sum (P := Try.prog) W a O (by omega)
   obtain ⟨a1, ha1⟩ : ∃ a1, a ++ O = a1 := ⟨_, rfl⟩
   have ha1s : a1.size <= 16001600 * (q + 1) := by rw [<- ha1, ByteArray.size_append]; omega
   rw [ha1] at hrun3 HAn
   have h3 : 0 <= (i : Int) := by omega
   have h4 : (i : Int).toNat = i := rfl
   have hw : IntKind.i64.wrap ((i : Int) + 16) = (i : Int) + 16 := IntWalk.i64_in _ (by omega)
   have hmin : min (n : Int) ((i : Int) + 16) = (b : Int) := by omega
   have hb1 : (i : Int) <= (b : Int) := by omega
   have hb2 : (b : Int) <= (c : Int) := by omega
   have hb3 : (b : Int).toNat = b := rfl
   have hb4 : 0 <= (b : Int) := by omega
   have hi2 : (i : Int) + 16 = ((16 * (q + 1) : Nat) : Int) := by omega
   have x1 := HX.out _ HB.out
   have HI2 := Lib.hid hi2
   clear hs1 hs2 ha1 h1 h2 hg hb hib hG hx hO hOz hbl hgl hi2
   go_wp2_with fail
   refine (CB.out _ HB.out).mono ?_
   rintro e w2 ⟨rfl, hb2⟩
   have HB2 := Lib.hid (HB.out.trans (hb2.mono HB.out.size))
   have y1 := HX.out _ HB2.out
   clear hb2 x1 hmin
   go_wp2_with fail
   refine (CT.out _).mono ?_
   rintro e w3 ⟨rfl, hb3⟩
   have HB3 := Lib.hid (HB2.out.trans (hb3.mono HB2.out.size))
   clear hb3 y1
   go_wp2_with fail
   refine (CO.out _).mono ?_
   rintro e w4 ⟨rfl, hb4⟩
   have HB4 := Lib.hid (HB3.out.trans (hb4.mono HB3.out.size))
   clear hb4
   go_wp2_with fail
   go_roundw
   case rel => exact ⟨q + 1, s2, a1, by rw [HI2.out], .inr (by omega), rfl, rfl, hs2s, ha1s, ⟨HIn.out, HAn.out⟩, HB4.out⟩
   case measure => simp [intOf]; omega
  ·have hiz : ¬ (i : Int) < (n : Int) := by omega
   have CO := Lib.hid (fun W => CN.out W n (by omega))
   have HF : Hid (bs (varL n) ++ s ++ a = bs (bytesD L)) := by
    show _ = _
    rw [HE.out q hq (by omega), HT.out.1, HT.out.2, bs_app, bs_app, List.append_assoc]
   have z2 : (bs (varL n)).size <= 10 := by rw [Fr.bs_size]; exact varL_le _ (by omega)
   generalize bs (varL n) = NB at *
   have hrun1 := fun (W : World) => run_string_add_sum (P := Try.prog) W NB s (by omega)
   obtain ⟨t1, ht1⟩ : ∃ t1, NB ++ s = t1 := ⟨_, rfl⟩
   have ht1s : t1.size <= 10 + 70 * q := by rw [<- ht1, ByteArray.size_append]; omega
   rw [ht1] at hrun1 HF
   have hrun2 := fun (W : World) => run_string_add_sum (P := Try.prog) W t1 a (by omega)
   obtain ⟨t2, ht2⟩ : ∃ t2, t1 ++ a = t2 := ⟨_, rfl⟩
   rw [ht2] at hrun2 HF
   clear ht1 ht2
   go_wp2_with fail
   refine (CO.out _).mono ?_
   rintro e w2 ⟨rfl, hb2⟩
   have HB2 := Lib.hid (HB.out.trans (hb2.mono HB.out.size))
   clear hb2
   go_wp2_with fail
   go_ret
   exact ⟨congrArg (fun b => Ending.returned (.string b)) HF.out, HB2.out⟩
end Go.Proofs.Ytjfclpicoamfaaa.Di
