/- The statements' own helpers: pick, as, same, begins. -/
import Derived.Test.YtjfclpicoamfaaaZDiUnp
import Derived.Deep.RegionLaw
import Derived.Test.YtjfclpicoamfaaaZDiBase

set_option maxRecDepth 100000
namespace Go.Proofs.Ytjfclpicoamfaaa.Di
open Go.RowKit
open Fr (bs)
theorem infoDE : (Try.prog.info? 43).map (fun i => (i.zero, i.size, i.bytes)) = some (some (.agg #[.string ⟨#[]⟩, .string ⟨#[]⟩]), 2, 32) := by kernel_rfl
section
variable {P : Program}
theorem step_append_own {ops : Array Oper} {o : Oper} {a : Act} {w : World} {K : Act -> World -> Prop} {Q : Exit -> Act -> World -> Prop} {E : Prop} (hgd : o.guard = none) (s x : Operand) (t : TypeId)
  (ho : o.op = .call { callee := .builtin .append, args := #[s, x], argTypes := #[t, t] })
  (base : Nat) (e : TypeId) (i : TypeInfo) (z : Value) (size bytes : Nat) (ht : P.underlying t = some (.slice e)) (hi : P.info? e = some i) (hz : i.zero = some z)
  (hsize : i.size = size) (hby : i.bytes = bytes) (hzs : z.cells.size = size) (hsz : 0 < size)
  (v : Value) (n : Nat) (xs : List Value) (hs : a.eval s = v) (hown : w.ownsRow base e size v n xs)
  (ad : Addr) (m c : Nat) (news : List Value) (hx : a.eval x = .slice (some ad) m c) (hl : news.length = m * size) (hnews : ∀ j u, news[j]? = some u -> w.cell? (ad.add j) = some u) (h1 : ∀ u ∈ news, u.oneCell' = true)
  (h63 : n + m <= maxLen) (hbytes : (n + m) * bytes <= 140737488355328) (hbase : base <= w.heap.size)
  (h : ∀ v' w', w'.ownsRow base e size v' (n + m) (xs ++ news) -> w.grownBy w' v.ownBlock -> K (a.put o.dst v') w') :
  if Region.wanted o (yielded ops a.tmps) = true then Oper.wp P o a w K Q else E := by
 have hw : Region.wanted o (yielded ops a.tmps) = true := by simp [Region.wanted, hgd]
 rw [if_pos hw]
 exact wp_append_own w s x t ho base e i z size bytes ht hi hz hsize hby hzs hsz v n xs hs hown ad m c news hx hl hnews h1 h63 hbytes hbase (fun v' w' h2 h3 _ => h v' w' h2 h3)
end
def pickI (c n : Int) : Int := (if c < 0 then -(c + 1) else c) % n
theorem pick_any (c n : Int) (w : World) (hc : -9223372036854775808 <= c /\ c <= 9223372036854775807) (hn : 0 < n /\ n <= 100000000) :
  Calls Try.prog 18 #[.int .i64 c, .int .i64 n] w fun e w' => e = .returned (.int .i64 (pickI c n)) /\ w = w' := by
 have hne : (n == 0) = false := by simp; omega
 have hm1 : (n == -1) = false := by simp; omega
 by_cases h : c < 0
 ·have HP : Hid (pickI c n = -((c + 1).tmod n)) := by
   show pickI c n = _; unfold pickI
   rw [if_pos h, <- Int.neg_tmod, Int.tmod_eq_emod_of_nonneg (by omega)]
  go_enter Try.func18, Try.ntmps18
  go_wp2
  go_ret
  exact ⟨by rw [HP.out]; rfl, rfl⟩
 ·have HP : Hid (pickI c n = c % n) := by show pickI c n = _; unfold pickI; rw [if_neg h]
  have h0 : 0 <= c := by omega
  go_enter Try.func18, Try.ntmps18
  go_wp2
  go_ret
  exact ⟨by rw [HP.out]; rfl, rfl⟩
def begB (s t : ByteArray) : Bool := decide (t.size <= s.size /\ s.extract 0 t.size = t)
def okS (x : En) : Prop := x.t.size <= 100 /\ x.v.size <= 21000
instance (x : En) : Decidable (okS x) := inferInstanceAs (Decidable (_ /\ _))
def sumV : List En -> Nat
 | [] => 0
 | x :: r => x.v.size + sumV r
theorem sumV_app : ∀ L M : List En, sumV (L ++ M) = sumV L + sumV M
 | [], M => by show sumV M = 0 + sumV M; omega
 | x :: r, M => by show _ + sumV (r ++ M) = _ + sumV r + sumV M; rw [sumV_app r M]; omega
theorem sumV_take (L : List En) (k : Nat) : sumV (L.take k) <= sumV L := by
 have := sumV_app (L.take k) (L.drop k)
 rw [List.take_append_drop] at this
 omega
def asB (L : List En) : Bool := decide (L.length <= 300 /\ (∀ x ∈ L, okS x) /\ sumV L <= 60000)
theorem asB_iff (L : List En) : asB L = true ↔ L.length <= 300 /\ (∀ x ∈ L, okS x) /\ sumV L <= 60000 := by unfold asB; exact decide_eq_true_iff
set_option maxHeartbeats 4000000 in
theorem as_any (L : List En) (v : Value) (w : World) (h : SlD w v L) (hn : L.length <= maxLen) (hz : ∀ x ∈ L, x.t.size <= maxLen /\ x.v.size <= maxLen) :
  Calls Try.prog 10 #[v] w fun e w' => (∃ u, e = .returned (.tuple #[u, .bool (asB L)]) /\ SlD w' u (if asB L then L else [])) /\ Below w.heap.size w w' := by
 obtain ⟨i1, hj, hy0, hy1, hy2⟩ := info_parts infoXE
 have HY2 := Lib.hid hy2; clear hy2
 obtain ⟨ao, c, rfl, _, hc⟩ := h
 have HC := Lib.hid hc
 have HZ := Lib.hid hz
 obtain ⟨n, hl⟩ : ∃ n, L.length = n := ⟨_, rfl⟩
 have HN := Lib.hid hl
 have hnm : n <= 9223372036854775807 := by rw [<- hl]; unfold maxLen at hn; exact hn
 have HAs := Lib.hid (asB_iff L)
 obtain ⟨q, hq⟩ : ∃ q, asB L = q := ⟨_, rfl⟩
 rw [hq] at HAs
 rw [hl, hq]
 clear hl hc hz hq hn
 obtain ⟨P, hP⟩ : ∃ P : Ending -> World -> Prop, (fun e w' => (∃ u, e = .returned (.tuple #[u, .bool q]) /\ SlD w' u (if q = true then L else [])) /\ Below w.heap.size w w') = P := ⟨_, rfl⟩
 have HNo : Hid (q = false -> ∀ W, Below w.heap.size w W -> P (.returned (.tuple #[.slice none 0 0, .bool false])) W) := fun h W hW => by
  rw [<- hP]
  subst h
  exact ⟨⟨_, rfl, SlD.nil _⟩, hW⟩
 have HYs : Hid (q = true -> ∀ u W, SlD W u L -> Below w.heap.size w W -> P (.returned (.tuple #[u, .bool true])) W) := fun h u W h1 hW => by
  rw [<- hP]
  subst h
  exact ⟨⟨_, rfl, h1⟩, hW⟩
 rw [hP]
 clear hP
 have HFa : Hid (¬ (L.length <= 300 /\ (∀ x ∈ L, okS x) /\ sumV L <= 60000) -> q = false) := fun h => by
  cases q with
  | false => rfl
  | true => exact absurd (HAs.out.1 rfl) h
 by_cases h3 : n <= 300
 ·have h3z : ¬ (300 : Int) < (n : Int) := by omega
  go_enter Try.func10, Try.ntmps10
  go_wp2_with fail
  go_loopw [4, 5, 6] (fun ov sv iv wr => ∃ i : Nat, i <= n /\ iv = .int .i64 (i : Int) /\ sv = .int .i64 (sumV (L.take i) : Nat) /\ sumV (L.take i) <= 60000 /\ Hid (∀ x ∈ L.take i, okS x) /\ Hid (OwnD w.heap.size wr 52 ov (L.take i)) /\ Hid (Below w.heap.size w wr)) (fun _ _ iv _ => n - (intOf iv).toNat)
  case atStart => exact ⟨0, Nat.zero_le _, rfl, rfl, Nat.zero_le _, (fun x hx => by simp at hx), OwnD.nil _ _ _, Below.refl _ _⟩
  case round =>
   obtain ⟨i, hi, rfl, rfl, hs6, HG, HO, HB⟩ := hrel
   by_cases hlt : i < n
   ·have hiz : (i : Int) < (n : Int) := by omega
    have hiL : i < L.length := by rw [HN.out]; exact hlt
    obtain ⟨g, off, rfl, hg, h1, h2⟩ := HC.out i hiL
    have x1 := (HB.out.cell (p := ⟨g, _, none⟩) hg).trans h1
    have x2 := (HB.out.cell (p := ⟨g, _, none⟩) hg).trans h2
    obtain ⟨z1, z2⟩ := HZ.out L[i] (List.getElem_mem hiL)
    unfold maxLen at z1 z2
    have HTk : Hid (L.take (i + 1) = L.take i ++ [L[i]]) := List.take_succ_eq_append_getElem hiL
    have HBad : Hid (¬ okS L[i] -> q = false) := fun h => HFa.out fun hh => h (hh.2.1 _ (List.getElem_mem hiL))
    have HSum : Hid (sumV (L.take (i + 1)) = sumV (L.take i) + L[i].v.size) := by show _ = _; rw [HTk.out, sumV_app]; show _ + (_ + 0) = _; rw [Nat.add_zero]
    have HBig : Hid (60000 < sumV (L.take (i + 1)) -> q = false) := fun h => HFa.out fun hh => by have := sumV_take L (i + 1); omega
    have HGd : Hid (okS L[i] -> ∀ x ∈ L.take (i + 1), okS x) := fun h x hx => by
     rw [HTk.out] at hx
     rcases List.mem_append.1 hx with hx | hx
     ·exact HG.out x hx
     ·rw [List.mem_singleton.1 hx]; exact h
    have HLen : Hid ((L.take i).length = i) := by show _ = _; rw [List.length_take, HN.out]; omega
    clear h1 h2 hg
    obtain ⟨x, hx⟩ : ∃ x, L[i] = x := ⟨_, rfl⟩
    rw [hx] at x1 x2 z1 z2 HTk HBad HSum HGd
    clear hx
    obtain ⟨A, B⟩ := x
    dsimp only at x1 x2 z1 z2 HSum
    obtain ⟨sm, hsm⟩ : ∃ sm, sumV (L.take i) = sm := ⟨_, rfl⟩
    rw [hsm] at hs6 HSum ⊢
    clear hsm
    have h3 : 0 <= (i : Int) := by omega
    have h4 : (i : Int).toNat = i := rfl
    by_cases zA : 100 < A.size
    ·have HF := Lib.hid (HBad.out fun h => by have : A.size <= 100 := h.1; omega)
     have b0 : (100 : Int) < (A.size : Int) := by omega
     go_wp2_with fail
     exact HNo.out HF.out _ HB.out
    ·have b0 : ¬ (100 : Int) < (A.size : Int) := by omega
     by_cases zB : 21000 < B.size
     ·have HF := Lib.hid (HBad.out fun h => by have : B.size <= 21000 := h.2; omega)
      have b1 : (21000 : Int) < (B.size : Int) := by omega
      go_wp2_with fail
      exact HNo.out HF.out _ HB.out
     ·have b1 : ¬ (21000 : Int) < (B.size : Int) := by omega
      by_cases zS : 60000 < sm + B.size
      ·have HF := Lib.hid (HBig.out (by rw [HSum.out]; exact zS))
       have b2 : (60000 : Int) < (sm : Int) + (B.size : Int) := by omega
       go_wp2_with fail
       exact HNo.out HF.out _ HB.out
      ·have b2 : ¬ (60000 : Int) < (sm : Int) + (B.size : Int) := by omega
       have HG2 := Lib.hid (HGd.out ⟨by show A.size <= _; omega, by show B.size <= _; omega⟩)
       have HS2 : Hid (sumV (L.take (i + 1)) <= 60000) := by show _ <= _; rw [HSum.out]; omega
       have hbz := HB.out.size
       obtain ⟨uo, uc, rfl⟩ := HO.out.slice
       rw [HLen.out] at HO ⊢
       have HO' : Hid (wr.ownsRow w.heap.size 52 2 (.slice uo i uc) i (flatD (L.take i))) := by
        have h := HO.out
        unfold OwnD at h
        rw [HLen.out] at h
        exact h
       clear HO
       go_wp2_with fail
       go_region_law (first
        | (refine step_append_own rfl (.tmp 42) (.tmp 54) 24 rfl w.heap.size 52 i1 (.agg #[.string ⟨#[]⟩, .string ⟨#[]⟩]) 2 32 Try.underlying24 hj hy0 hy1 HY2.out rfl (by omega) (.slice uo i uc) i (flatD (L.take i)) (by kernel_rfl) ?own ⟨wr.heap.size, 0, none⟩ 1 1 [.string A, .string B] (by kernel_rfl) rfl (two_cellD (by simp)) two_oneD (by unfold maxLen; omega) (by omega) ?base ?_
           case own => exact (own_belowD HO'.out (Below.refl _ _).drew).alloc _
           case base => simp; omega
           intro v1 w9 hown hgrow
           have HV9 : Hid (OwnD w.heap.size w9 52 v1 (L.take (i + 1))) := by
            show OwnD _ _ _ _ _
            rw [HTk.out]
            unfold OwnD
            rw [List.length_append, flatD_snoc, HLen.out]
            exact hown
           have HB9 : Hid (Below w.heap.size w w9) := ((HB.out.drew).alloc hbz _).grown hgrow (by simp; omega) (fun q hq => own_lowD HO'.out hq)
           clear hown hgrow))
       all_goals
        go_wp2_with fail
        go_roundw
        case rel => exact ⟨i + 1, by omega, by go_num, by rw [HSum.out]; simp, HS2.out, HG2.out, HV9.out, HB9.out⟩
        case measure => simp [intOf]; omega
   ·obtain rfl : i = n := by omega
    have hiz : ¬ (i : Int) < (i : Int) := by omega
    rw [List.take_of_length_le (show L.length <= i by rw [HN.out]; exact Nat.le_refl _)] at HG HO hs6 ⊢
    have HQ : Hid (q = true) := HAs.out.2 ⟨by rw [HN.out]; exact h3, HG.out, hs6⟩
    go_wp2_with fail
    exact HYs.out HQ.out _ _ HO.out.sl HB.out
 ·have h3z : (300 : Int) < (n : Int) := by omega
  have HF : Hid (q = false) := HFa.out fun h => by have := h.1; rw [HN.out] at this; omega
  go_enter Try.func10, Try.ntmps10
  go_wp2_with fail
  exact HNo.out HF.out _ (Below.refl _ _)
end Go.Proofs.Ytjfclpicoamfaaa.Di
/- The program's way to read a dictionary's bytes, in plain lists: where a term would stand, and the entries from there on. -/
namespace Go.Proofs.Ytjfclpicoamfaaa.Di
open Fr (varL textL rdV rdT rdV_varL rdV_some rdT_textL rdT_some bs)
def geB (x t : ByteArray) : Bool := !less x t
def skL (t : ByteArray) : Nat -> Nat -> Nat -> Nat -> Nat -> List UInt8 -> Option (Nat × Nat × List UInt8)
 | 0, _, left, over, _, l => some (left, over, l)
 | f + 1, n, left, over, en, l => (rdT l).bind fun x => (rdV x.2).bind fun y => skL t f (n - 16) (if geB t (bs x.1) = true then n else left) (if geB t (bs x.1) = true then en else over) ((en + y.1) % 18446744073709551616) y.2
def seekD (t : ByteArray) (l : List UInt8) : Option (Nat × List UInt8) := (rdV l).bind fun x => if x.1 <= 1048576 then (skL t ((x.1 + 15) / 16) x.1 x.1 0 0 x.2).bind fun y => if y.2.1 <= y.2.2.length then some (y.1, y.2.2.drop y.2.1) else none else none
def goL (t : ByteArray) : Nat -> Nat -> List UInt8 -> List UInt8 -> List En
 | 0, _, _, _ => []
 | n + 1, i, p, l => match dEnt (if i % 16 = 0 then [] else p) l with
  | none => []
  | some (x, r) => (if geB x.t t = true then [x] else []) ++ goL t n (i + 1) x.t.data.toList r
def fromD (t : ByteArray) (l : List UInt8) : List En := match seekD t l with
 | none => []
 | some (n, r) => goL t n 0 [] r
def geL (t : ByteArray) (L : List En) : List En := L.filter fun x => geB x.t t
theorem geL_app (t : ByteArray) (L M : List En) : geL t (L ++ M) = geL t L ++ geL t M := List.filter_append ..
theorem skL_back (t : ByteArray) : ∀ (k : Nat) (M : List En) (left over en : Nat) (s : List UInt8), M.length <= k -> (∀ x ∈ M, okE x) -> en < 18446744073709551616 ->
  ∃ left' over', skL t ((M.length + 15) / 16) M.length left over en (idxL M ++ s) = some (left', over', s) /\
   ((left' = left /\ over' = over) \/ ∃ A B x, M = A ++ B /\ B.head? = some x /\ allD M = allD A ++ allD B /\ geB t x.t = true /\ left' = B.length /\ over' = (en + (allD A).length) % 18446744073709551616) := by
 intro k
 induction k with
 | zero =>
  intro M left over en s hk _ _
  obtain rfl := List.length_eq_zero_iff.1 (show M.length = 0 by omega)
  rw [idxL, dif_pos rfl]
  exact ⟨left, over, rfl, .inl ⟨rfl, rfl⟩⟩
 | succ k ih =>
  intro M left over en s hk h hen
  by_cases h0 : M = []
  ·subst h0
   rw [idxL, dif_pos rfl]
   exact ⟨left, over, rfl, .inl ⟨rfl, rfl⟩⟩
  ·have hpos := List.length_pos_iff.2 h0
   have hx := h (M.head h0) (List.head_mem h0)
   have hl := str_len (M.head h0).t
   have ho := hx.2.1
   have hb := blk_small (M.take 16) (fun x hx => h x (List.mem_of_mem_take hx)) (by rw [List.length_take]; omega)
   have hh : M.head? = some (M.head h0) := List.head?_eq_some_head h0
   rw [idxL, dif_neg h0, show (M.length + 15) / 16 = ((M.drop 16).length + 15) / 16 + 1 by rw [List.length_drop]; omega, skL, List.append_assoc, rdT_textL _ _ (by omega), Option.bind_some]
   dsimp only
   rw [List.append_assoc, rdV_varL _ _ hb, Option.bind_some]
   dsimp only
   rw [bs_back]
   have hd := ih (M.drop 16) (if geB t (M.head h0).t = true then M.length else left) (if geB t (M.head h0).t = true then en else over) ((en + (blkL [] (M.take 16)).length) % 18446744073709551616) s (by rw [List.length_drop]; omega) (fun x hx => h x (List.mem_of_mem_drop hx)) (Nat.mod_lt _ (by omega))
   rw [List.length_drop] at hd ⊢
   obtain ⟨left', over', e1, e2⟩ := hd
   refine ⟨left', over', e1, ?_⟩
   rcases e2 with ⟨e2, e3⟩ | ⟨A, B, x, e2, e3, e4, e5, e6, e7⟩
   ·by_cases hg : geB t (M.head h0).t = true
    ·rw [if_pos hg] at e2 e3
     refine .inr ⟨[], M, M.head h0, rfl, hh, ?_, hg, e2, ?_⟩
     ·conv => rhs; rw [allD]
      rfl
     ·rw [e3, allD, dif_pos rfl, List.length_nil, Nat.add_zero, Nat.mod_eq_of_lt hen]
    ·rw [if_neg hg] at e2 e3
     exact .inl ⟨e2, e3⟩
   ·have hB : B ≠ [] := by rintro rfl; cases e3
    have hd0 : M.drop 16 ≠ [] := by rw [e2]; exact List.append_ne_nil_of_right_ne_nil _ hB
    have hdl := List.length_pos_iff.2 hd0
    rw [List.length_drop] at hdl
    have ht : (M.take 16).length = 16 := by rw [List.length_take]; omega
    have hT : allD (M.take 16 ++ A) = blkL [] (M.take 16) ++ allD A := by
     rw [allD, dif_neg (by intro e; have := congrArg List.length e; rw [List.length_append, ht] at this; simp at this), List.take_left' ht, List.drop_left' ht]
    refine .inr ⟨M.take 16 ++ A, B, x, ?_, e3, ?_, e5, e6, ?_⟩
    ·rw [List.append_assoc, <- e2, List.take_append_drop]
    ·rw [hT, List.append_assoc, <- e4]
     conv => lhs; rw [allD]
     rw [dif_neg h0]
    ·rw [e7, hT, List.length_append]; omega
theorem goL_blk (t : ByteArray) : ∀ (M : List En) (n i : Nat) (p s : List UInt8), i % 16 + M.length <= 16 -> (∀ x ∈ M, okE x) -> p.length < 18446744073709551616 ->
  ∃ q : List UInt8, q.length < 18446744073709551616 /\ goL t (M.length + n) i p (blkL (if i % 16 = 0 then [] else p) M ++ s) = geL t M ++ goL t n (i + M.length) q s
 | [], n, i, p, s, _, _, hp => ⟨p, hp, by rw [List.length_nil, Nat.zero_add, Nat.add_zero]; rfl⟩
 | x :: r, n, i, p, s, hi, h, hp => by
  have hx := h x (by simp)
  have hl := str_len x.t
  have ho := hx.2.1
  rw [List.length_cons] at hi
  obtain ⟨q, hq, e⟩ := goL_blk t r n (i + 1) x.t.data.toList s (by omega) (fun y hy => h y (by simp [hy])) (by omega)
  refine ⟨q, hq, ?_⟩
  have e1 : blkL x.t.data.toList r = blkL (if (i + 1) % 16 = 0 then [] else x.t.data.toList) r := by
   by_cases hr : r = []
   ·subst hr; rfl
   ·have := List.length_pos_iff.2 hr
    rw [if_neg (by omega)]
  rw [List.length_cons, show r.length + 1 + n = (r.length + n) + 1 by omega, goL, blkL, List.append_assoc, dEnt_back _ x _ (by split <;> simp_all) hx]
  dsimp only
  rw [e1, e, show i + (r.length + 1) = i + 1 + r.length by omega, <- List.append_assoc]
  congr 1
  unfold geL
  rw [List.filter_cons]
  split <;> rfl
theorem goL_all (t : ByteArray) : ∀ (k : Nat) (M : List En) (i : Nat) (p s : List UInt8), M.length <= k -> i % 16 = 0 -> (∀ x ∈ M, okE x) -> p.length < 18446744073709551616 -> goL t M.length i p (allD M ++ s) = geL t M := by
 intro k
 induction k with
 | zero =>
  intro M i p s hk _ _ _
  obtain rfl := List.length_eq_zero_iff.1 (show M.length = 0 by omega)
  rfl
 | succ k ih =>
  intro M i p s hk hi h hp
  by_cases h0 : M = []
  ·subst h0; rfl
  ·have hpos := List.length_pos_iff.2 h0
   have hml : M.length = (M.take 16).length + (M.drop 16).length := by rw [<- List.length_append, List.take_append_drop]
   obtain ⟨q, hq, e⟩ := goL_blk t (M.take 16) (M.drop 16).length i p (allD (M.drop 16) ++ s) (by rw [List.length_take]; omega) (fun x hx => h x (List.mem_of_mem_take hx)) hp
   rw [if_pos hi] at e
   rw [allD, dif_neg h0, List.append_assoc, hml, e]
   have e2 : goL t (M.drop 16).length (i + (M.take 16).length) q (allD (M.drop 16) ++ s) = geL t (M.drop 16) := by
    by_cases hd : M.drop 16 = []
    ·rw [hd]; rfl
    ·have hdl := List.length_pos_iff.2 hd
     rw [List.length_drop] at hdl
     exact ih (M.drop 16) _ q s (by rw [List.length_drop]; omega) (by rw [List.length_take]; omega) (fun x hx => h x (List.mem_of_mem_drop hx)) hq
   rw [e2, <- geL_app, List.take_append_drop]
theorem fromD_back {L : List En} (t : ByteArray) (h : RightD L) (hs : (allD L).length < 18446744073709551616) : fromD t (bytesD L) = geL t L := by
 obtain ⟨h1, h2, h3⟩ := h
 obtain ⟨left', over', e1, e2⟩ := skL_back t _ L L.length 0 0 (allD L) (Nat.le_refl _) h2 (by omega)
 have e0 : ∀ o n B, over' = o -> left' = n -> o <= (allD L).length -> (allD L).drop o = allD B -> n = B.length -> (∀ x ∈ B, okE x) -> geL t B = geL t L -> fromD t (bytesD L) = geL t L := fun o n B q1 q2 q3 q4 q5 q6 q7 => by
  unfold fromD seekD bytesD
  rw [rdV_varL _ _ (by omega), Option.bind_some]
  dsimp only
  rw [if_pos h1, e1, Option.bind_some]
  dsimp only
  rw [if_pos (by rw [q1]; exact q3), q1, q4, q2, q5]
  dsimp only
  have := goL_all t _ B 0 [] [] (Nat.le_refl _) rfl q6 (by simp)
  rw [List.append_nil] at this
  rw [this, q7]
 rcases e2 with ⟨e2, e3⟩ | ⟨A, B, x, e2, e3, e4, e5, e6, e7⟩
 ·exact e0 _ _ L e3 e2 (Nat.zero_le _) rfl rfl h2 rfl
 ·have hA : (allD A).length <= (allD L).length := by rw [e4, List.length_append]; omega
  refine e0 (allD A).length _ B (by rw [e7, Nat.zero_add, Nat.mod_eq_of_lt (by omega)]) e6 hA (by rw [e4, List.drop_left]) rfl (fun y hy => h2 y (by rw [e2]; exact List.mem_append_right _ hy)) ?_
  rw [e2, geL_app]
  have : geL t A = [] := by
   refine List.filter_eq_nil_iff.2 fun y hy => ?_
   rw [e2] at h3
   have hxB : x ∈ B := List.mem_of_head? e3
   have hyx : less y.t x.t = true := (List.pairwise_append.1 h3).2.2 y hy x hxB
   unfold geB at e5 ⊢
   have : less y.t t = true := by
    cases e : less t x.t with
    | true => rw [e] at e5; cases e5
    | false => 
     cases e' : less y.t t with
     | true => rfl
     | false =>
      have := le_less e' hyx
      rw [this] at e; cases e
   rw [this]; simp
  rw [this, List.nil_append]
theorem rdV_lt {l r : List UInt8} {n : Nat} (h : rdV l = some (n, r)) : r.length < l.length := by
 obtain ⟨_, _, h1, h2, _, _, h3⟩ := rdV_some h
 rw [h3, List.length_drop]; omega
theorem dEnt_size {p l r : List UInt8} {x : En} (h : dEnt p l = some (x, r)) : r.length < l.length /\ x.t.size + x.v.size + r.length <= p.length + l.length /\ x.v.size <= l.length /\ x.t.size + r.length <= p.length + l.length := by
 unfold dEnt at h
 cases h1 : rdV l with
 | none => rw [h1] at h; cases h
 | some a =>
  obtain ⟨k, q⟩ := a
  rw [h1, Option.bind_some] at h
  dsimp only at h
  split at h
  ·cases h2 : rdT q with
   | none => rw [h2] at h; cases h
   | some a =>
    obtain ⟨t, q2⟩ := a
    rw [h2, Option.bind_some] at h
    dsimp only at h
    cases h3 : rdT q2 with
    | none => rw [h3] at h; cases h
    | some a =>
     obtain ⟨v, q3⟩ := a
     rw [h3, Option.bind_some] at h
     injection h with h
     injection h with ha hb
     subst ha hb
     have g1 := rdV_lt h1
     have g2 := rdT_len h2
     have g3 := rdT_len h3
     have g4 : (bs (p.take k ++ t)).size <= p.length + t.length := by rw [Fr.bs_size, List.length_append, List.length_take]; omega
     have g5 : (bs v).size = v.length := Fr.bs_size v
     dsimp only
     omega
  ·cases h
theorem goL_size (t : ByteArray) : ∀ (n i : Nat) (p l : List UInt8), (goL t n i p l).length <= l.length /\ ∀ x ∈ goL t n i p l, x.t.size <= p.length + l.length /\ x.v.size <= l.length
 | 0, _, _, _ => ⟨Nat.zero_le _, fun _ h => by cases h⟩
 | n + 1, i, p, l => by
  rw [goL]
  split
  ·exact ⟨Nat.zero_le _, fun _ h => by cases h⟩
  ·rename_i x r h
   obtain ⟨g1, g2, g3, g4⟩ := dEnt_size h
   have gp : (if i % 16 = 0 then [] else p : List UInt8).length <= p.length := by split <;> simp
   obtain ⟨k1, k2⟩ := goL_size t n (i + 1) x.t.data.toList r
   rw [str_len] at k2
   refine ⟨?_, fun y hy => ?_⟩
   ·rw [List.length_append]
    split
    ·rw [List.length_singleton]; omega
    ·rw [List.length_nil]; omega
   ·rcases List.mem_append.1 hy with hy | hy
    ·split at hy
     ·rw [List.mem_singleton.1 hy]
      omega
     ·cases hy
    ·have := k2 y hy
     omega
theorem skL_len (t : ByteArray) : ∀ (f n left over en : Nat) (l : List UInt8) {a b : Nat} {q : List UInt8}, skL t f n left over en l = some (a, b, q) -> q.length <= l.length
 | 0, _, _, _, _, l, a, b, q, h => by injection h with h; injection h with _ h; injection h with _ h; subst h; exact Nat.le_refl _
 | f + 1, n, left, over, en, l, a, b, q, h => by
  rw [skL] at h
  cases h1 : rdT l with
  | none => rw [h1] at h; cases h
  | some x =>
   obtain ⟨x, r⟩ := x
   rw [h1, Option.bind_some] at h
   dsimp only at h
   cases h2 : rdV r with
   | none => rw [h2] at h; cases h
   | some y =>
    obtain ⟨v, q2⟩ := y
    rw [h2, Option.bind_some] at h
    have := skL_len t f _ _ _ _ _ h
    have g1 := rdT_len h1
    have g2 := rdV_lt h2
    dsimp only at this
    omega
theorem seekD_len {t : ByteArray} {l r : List UInt8} {n : Nat} (h : seekD t l = some (n, r)) : r.length <= l.length := by
 unfold seekD at h
 cases h1 : rdV l with
 | none => rw [h1] at h; cases h
 | some x =>
  obtain ⟨c, q⟩ := x
  rw [h1, Option.bind_some] at h
  dsimp only at h
  split at h
  ·cases h2 : skL t ((c + 15) / 16) c c 0 0 q with
   | none => rw [h2] at h; cases h
   | some y =>
    obtain ⟨a, b, q2⟩ := y
    rw [h2, Option.bind_some] at h
    dsimp only at h
    split at h
    ·injection h with h
     injection h with _ h
     have g1 := rdV_lt h1
     have g2 := skL_len t _ _ _ _ _ _ h2
     rw [<- h, List.length_drop]
     omega
    ·cases h
  ·cases h
theorem fromD_size (t : ByteArray) (l : List UInt8) : (fromD t l).length <= l.length /\ ∀ x ∈ fromD t l, x.t.size <= l.length /\ x.v.size <= l.length := by
 unfold fromD
 split
 ·exact ⟨Nat.zero_le _, fun _ h => by cases h⟩
 ·rename_i n r h
  have g := seekD_len h
  obtain ⟨k1, k2⟩ := goL_size t n 0 [] r
  refine ⟨by omega, fun x hx => ?_⟩
  have := k2 x hx
  rw [List.length_nil] at this
  omega
theorem skL_many (t : ByteArray) : ∀ (f n left over en : Nat) (l : List UInt8) {a b : Nat} {q : List UInt8}, skL t f n left over en l = some (a, b, q) -> left <= 1048576 -> n <= 1048576 -> a <= 1048576
 | 0, _, _, _, _, l, a, b, q, h, h1, _ => by injection h with h; injection h with h _; omega
 | f + 1, n, left, over, en, l, a, b, q, h, h1, h2 => by
  rw [skL] at h
  cases g1 : rdT l with
  | none => rw [g1] at h; cases h
  | some x =>
   obtain ⟨x, r⟩ := x
   rw [g1, Option.bind_some] at h
   dsimp only at h
   cases g2 : rdV r with
   | none => rw [g2] at h; cases h
   | some y =>
    obtain ⟨v, q2⟩ := y
    rw [g2, Option.bind_some] at h
    exact skL_many t f _ _ _ _ _ h (by split <;> omega) (by omega)
theorem seekD_many {t : ByteArray} {l r : List UInt8} {n : Nat} (h : seekD t l = some (n, r)) : n <= 1048576 := by
 unfold seekD at h
 cases h1 : rdV l with
 | none => rw [h1] at h; cases h
 | some x =>
  obtain ⟨c, q⟩ := x
  rw [h1, Option.bind_some] at h
  dsimp only at h
  split at h
  ·rename_i hc
   cases h2 : skL t ((c + 15) / 16) c c 0 0 q with
   | none => rw [h2] at h; cases h
   | some y =>
    obtain ⟨a, b, q2⟩ := y
    rw [h2, Option.bind_some] at h
    dsimp only at h
    split at h
    ·injection h with h
     injection h with h _
     have := skL_many t _ _ _ _ _ _ h2 hc hc
     omega
    ·cases h
  ·cases h
end Go.Proofs.Ytjfclpicoamfaaa.Di
/- The statements' same: two rows of entries. -/
namespace Go.Proofs.Ytjfclpicoamfaaa.Di
open Go.RowKit
open Fr (bs)
end Go.Proofs.Ytjfclpicoamfaaa.Di
/- What the first entry at or above a term tells, and those that begin with a text: in plain lists. -/
namespace Go.Proofs.Ytjfclpicoamfaaa.Di
open Fr (bs)
def lookD (L : List En) (t : ByteArray) : Option ByteArray := (L.find? fun x => decide (x.t = t)).map En.v
def getV (o : Option ByteArray) : Value := match o with
 | some v => .tuple #[.string v, .bool true]
 | none => .tuple #[.string ⟨#[]⟩, .bool false]
def prefD (L : List En) (p : ByteArray) : List En := L.filter fun x => begB x.t p
theorem begB_pre (x t : ByteArray) : begB x t = true ↔ t.data.toList <+: x.data.toList := by
 have hx := str_len x
 have ht := str_len t
 have e : x.extract 0 t.size = bs (x.data.toList.take t.size) := ext_take x t.size
 unfold begB
 rw [decide_eq_true_iff, e]
 constructor
 ·rintro ⟨h1, h2⟩
  rw [<- h2, bs_list]
  exact List.take_prefix _ _
 ·intro h
  have := h.length_le
  refine ⟨by omega, ?_⟩
  rw [<- ht, <- List.prefix_iff_eq_take.1 h, bs_back]
theorem bl_between : ∀ (p x y : List UInt8), Op.bytesLess x p = false -> Op.bytesLess x y = true -> p <+: y -> p <+: x
 | [], _, _, _, _, _ => List.nil_prefix
 | a :: p, x, y, h1, h2, h3 => by
  obtain ⟨z, rfl⟩ := h3
  cases x with
  | nil => simp [Op.bytesLess] at h1
  | cons b x =>
   rw [List.cons_append] at h2
   simp only [Op.bytesLess, Bool.or_eq_true, Bool.and_eq_true, decide_eq_true_eq, beq_iff_eq, Bool.or_eq_false_iff, Bool.and_eq_false_iff, decide_eq_false_iff_not, beq_eq_false_iff_ne, ne_eq] at h1 h2
   rcases h2 with h2 | ⟨rfl, h2⟩
   ·exact absurd h2 h1.1
   ·rcases h1.2 with h | h
    ·exact absurd rfl h
    ·exact (List.cons_prefix_cons).2 ⟨rfl, bl_between p x (p ++ z) h h2 (List.prefix_append ..)⟩
theorem bl_pre : ∀ (p x : List UInt8), p <+: x -> Op.bytesLess x p = false
 | [], x, _ => by cases x <;> rfl
 | a :: p, x, h => by
  obtain ⟨z, rfl⟩ := h
  rw [List.cons_append]
  simp only [Op.bytesLess, Bool.or_eq_false_iff, Bool.and_eq_false_iff, decide_eq_false_iff_not, beq_eq_false_iff_ne, ne_eq]
  exact ⟨fun h => by simp only [UInt8.lt_iff_toNat_lt] at h; omega, .inr (bl_pre p (p ++ z) (List.prefix_append ..))⟩
theorem beg_ge {x p : ByteArray} (h : begB x p = true) : geB x p = true := by
 have := bl_pre _ _ ((begB_pre x p).1 h)
 unfold geB less
 rw [ByteArray.toList_eq, ByteArray.toList_eq, this]; rfl
theorem beg_between {x y p : ByteArray} (h1 : geB x p = true) (h2 : less x y = true) (h3 : begB y p = true) : begB x p = true := by
 unfold geB at h1
 have h1' : less x p = false := by cases e : less x p with
  | false => rfl
  | true => rw [e] at h1; cases h1
 unfold less at h1' h2
 rw [ByteArray.toList_eq, ByteArray.toList_eq] at h1' h2
 exact (begB_pre x p).2 (bl_between _ _ _ h1' h2 ((begB_pre y p).1 h3))
theorem pref_while (p : ByteArray) : ∀ (L : List En), L.Pairwise upE -> (geL p L).takeWhile (fun x => begB x.t p) = prefD L p
 | [], _ => rfl
 | x :: r, h => by
  obtain ⟨h1, h2⟩ := List.pairwise_cons.1 h
  have ih := pref_while p r h2
  unfold geL prefD at *
  rw [List.filter_cons, List.filter_cons]
  by_cases hg : geB x.t p = true
  ·rw [if_pos hg, List.takeWhile_cons]
   by_cases hb : begB x.t p = true
   ·rw [if_pos hb, if_pos hb, ih]
   ·rw [if_neg hb, if_neg hb]
    exact (List.filter_eq_nil_iff.2 fun y hy hyb => hb (beg_between hg (h1 y hy) hyb)).symm
  ·rw [if_neg hg, if_neg fun hb => hg (beg_ge hb), ih]
theorem look_head (t : ByteArray) : ∀ (L : List En), L.Pairwise upE -> lookD L t = match geL t L with | [] => none | x :: _ => if less t x.t = true then none else some x.v
 | [], _ => rfl
 | x :: r, h => by
  obtain ⟨h1, h2⟩ := List.pairwise_cons.1 h
  have ih := look_head t r h2
  unfold lookD at *
  rw [List.find?_cons]
  unfold geL at *
  rw [List.filter_cons]
  by_cases hg : geB x.t t = true
  ·rw [if_pos hg]
   dsimp only
   by_cases hl : less t x.t = true
   ·rw [if_pos hl]
    have hne : x.t ≠ t := fun e => by rw [e, less_irr] at hl; cases hl
    rw [decide_eq_false hne]
    dsimp only
    rw [List.find?_eq_none.2 fun y hy => ?_]
    ·rfl
    ·have := less_trans hl (h1 y hy)
     intro e
     have e := of_decide_eq_true e
     rw [e, less_irr] at this; cases this
   ·rw [if_neg hl]
    have hxt : x.t = t := by
     refine less_total ?_ (by simpa using hl)
     unfold geB at hg
     simpa using hg
    rw [decide_eq_true hxt]
    rfl
  ·rw [if_neg hg]
   have hne : x.t ≠ t := fun e => by
    apply hg
    unfold geB
    rw [e, less_irr]; rfl
   rw [decide_eq_false hne]
   dsimp only
   exact ih
end Go.Proofs.Ytjfclpicoamfaaa.Di
