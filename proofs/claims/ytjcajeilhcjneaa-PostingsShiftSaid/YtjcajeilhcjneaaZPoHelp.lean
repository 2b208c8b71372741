/- The statements' own helpers: pick, small, same. -/
import Derived.Test.YtjcajeilhcjneaaZPoUnpW
import Derived.Lib.MinMax

set_option maxRecDepth 100000
namespace Go.Proofs.Ytjcajeilhcjneaa.Po
open Go.RowKit
def pickI (c n : Int) : Int := (if c < 0 then -(c + 1) else c) % n
theorem pick_any (c n : Int) (w : World) (hc : -9223372036854775808 <= c /\ c <= 9223372036854775807) (hn : 0 < n /\ n <= 100000000) :
  Calls Try.prog 18 #[.int .i64 c, .int .i64 n] w fun e w' => e = .returned (.int .i64 (pickI c n)) /\ w = w' := by
 have hne : (n == 0) = false := by simp; omega
 have hm1 : (n == -1) = false := by simp; omega
 by_cases h : c < 0
 ·have HP : Hid (pickI c n = -((c + 1).tmod n)) := by
   show pickI c n = _; unfold pickI
   rw [if_pos h, <- Int.neg_tmod, Int.tmod_eq_emod_of_nonneg (by omega)]
  go_enter Try.func18, Try.ntmps18
  go_wp2
  go_ret
  exact ⟨by rw [HP.out]; rfl, rfl⟩
 ·have HP : Hid (pickI c n = c % n) := by show pickI c n = _; unfold pickI; rw [if_neg h]
  have h0 : 0 <= c := by omega
  go_enter Try.func18, Try.ntmps18
  go_wp2
  go_ret
  exact ⟨by rw [HP.out]; rfl, rfl⟩
def sumP : List Pg -> Nat
 | [] => 0
 | p :: r => min p.pos.length 3000 + sumP r
theorem sumP_app : ∀ L M : List Pg, sumP (L ++ M) = sumP L + sumP M
 | [], M => by show sumP M = 0 + sumP M; omega
 | p :: r, M => by show min _ _ + sumP (r ++ M) = min _ _ + sumP r + sumP M; rw [sumP_app r M]; omega
theorem sumP_take (L : List Pg) (k : Nat) : sumP (L.take k) <= sumP L := by
 have := sumP_app (L.take k) (L.drop k)
 rw [List.take_append_drop] at this
 omega
def smallB (L : List Pg) : Bool := decide (L.length <= 600 /\ sumP L <= 8000)
set_option maxHeartbeats 2000000 in
theorem small_any (L : List Pg) (v : Value) (w : World) (h : SlP w v L) (hp : ∀ p ∈ L, p.pos.length <= maxLen) (hn : L.length <= maxLen) : Calls Try.prog 10 #[v] w fun e w' => e = .returned (.bool (smallB L)) /\ Below w.heap.size w w' := by
 obtain ⟨ao, c, rfl, _, hc⟩ := h
 have HC := Lib.hid hc
 have HPL := Lib.hid hp
 obtain ⟨n, hl⟩ : ∃ n, L.length = n := ⟨_, rfl⟩
 have HN := Lib.hid hl
 obtain ⟨q, hq⟩ : ∃ q, smallB L = q := ⟨_, rfl⟩
 have HQ := Lib.hid hq
 have hnm : n <= 9223372036854775807 := by rw [<- hl]; unfold maxLen at hn; exact hn
 rw [hl, hq]
 clear hl hc hp hq hn
 by_cases h6 : n <= 600
 ·have h6z : ¬ (600 : Int) < (n : Int) := by omega
  go_enter Try.func10, Try.ntmps10
  go_wp2_with fail
  go_loopw [3, 4] (fun sv iv wr => ∃ i : Nat, i <= n /\ iv = .int .i64 (i : Int) /\ sv = .int .i64 (sumP (L.take i) : Nat) /\ sumP (L.take i) <= 8000 /\ Hid (Below w.heap.size w wr)) (fun _ iv _ => n - (intOf iv).toNat)
  case atStart => exact ⟨0, Nat.zero_le _, rfl, rfl, Nat.zero_le _, Below.refl _ _⟩
  case round =>
   obtain ⟨i, hi, rfl, rfl, hs8, HB⟩ := hrel
   by_cases hlt : i < n
   ·have hiz : (i : Int) < (n : Int) := by omega
    have hiL : i < L.length := by rw [HN.out]; exact hlt
    obtain ⟨g, off, ve, rfl, hg, h1, h2, h3'⟩ := HC.out i hiL
    have x1 := (HB.out.cell (p := ⟨g, _, none⟩) hg).trans h2
    have HSu : Hid (sumP (L.take (i + 1)) = sumP (L.take i) + min L[i].pos.length 3000) := by
     show _ = _
     rw [List.take_succ_eq_append_getElem hiL, sumP_app]
     rfl
    have hle := sumP_take L (i + 1)
    have hpl := HPL.out L[i] (List.getElem_mem hiL)
    obtain ⟨ao', c', rfl, -, -⟩ := h3'
    have HNo : Hid (8000 < sumP (L.take (i + 1)) -> q = false) := fun h => by
     rw [<- HQ.out]; exact decide_eq_false (by rintro ⟨_, h2⟩; omega)
    generalize L[i].pos.length = m at *
    generalize sumP (L.take i) = a at *
    obtain ⟨b, hb⟩ : ∃ b, sumP (L.take (i + 1)) = b := ⟨_, rfl⟩
    rw [hb] at HSu HNo hle
    have HBq := Lib.hid hb
    have hab := HSu.out
    have h3 : 0 <= (i : Int) := by omega
    have h4 : (i : Int).toNat = i := rfl
    have hsum : (a : Int) + min (m : Int) 3000 = (b : Int) := by omega
    have hwr : IntKind.i64.wrap ((a : Int) + min (m : Int) 3000) = (b : Int) := by rw [hsum]; exact IntWalk.i64_in _ (by omega)
    have HSum := Lib.hid hsum
    clear hg h1 h2 hb hsum hab hle
    by_cases hb8 : b <= 8000
    ·have hbz : ¬ (8000 : Int) < (b : Int) := by omega
     go_wp2_with fail
     go_roundw
     case rel => exact ⟨i + 1, by omega, by go_num, by rw [HBq.out], by rw [HBq.out]; exact hb8, HB.out⟩
     case measure => simp [intOf]; omega
    ·have hbz : (8000 : Int) < (b : Int) := by omega
     have HF := Lib.hid (HNo.out (by omega))
     go_wp2_with fail
     go_ret
     exact ⟨congrArg (fun b => Ending.returned (.bool b)) HF.out.symm, HB.out⟩
   ·obtain rfl : i = n := by omega
    have hiz : ¬ (i : Int) < (i : Int) := by omega
    have HF : Hid (q = true) := by
     show _ = _
     rw [<- HQ.out]
     rw [List.take_of_length_le (by rw [HN.out]; exact Nat.le_refl _)] at hs8
     exact decide_eq_true ⟨by rw [HN.out]; exact h6, hs8⟩
    go_wp2_with fail
    go_ret
    exact ⟨congrArg (fun b => Ending.returned (.bool b)) HF.out.symm, HB.out⟩
 ·have h6z : (600 : Int) < (n : Int) := by omega
  have HF : Hid (q = false) := by
   show _ = _
   rw [<- HQ.out]; exact decide_eq_false (by rintro ⟨h, _⟩; rw [HN.out] at h; exact h6 h)
  go_enter Try.func10, Try.ntmps10
  go_wp2_with fail
  go_ret
  exact ⟨congrArg (fun b => Ending.returned (.bool b)) HF.out.symm, Below.refl _ _⟩
set_option maxHeartbeats 4000000 in
theorem same_any (L : List Pg) (va vb : Value) (w : World) (ha : SlP w va L) (hb : SlP w vb L) (hp : ∀ p ∈ L, p.pos.length <= maxLen) (hn : L.length <= maxLen) :
  Calls Try.prog 17 #[va, vb] w fun e w' => e = .returned (.bool true) /\ Below w.heap.size w w' := by
 obtain ⟨ao, c, rfl, -, hca⟩ := ha
 obtain ⟨ao', c', rfl, -, hcb⟩ := hb
 have HA := Lib.hid hca
 have HB := Lib.hid hcb
 have HPL := Lib.hid hp
 obtain ⟨n, hl⟩ : ∃ n, L.length = n := ⟨_, rfl⟩
 have HN := Lib.hid hl
 rw [hl] at hn ⊢
 have hnm : n <= 9223372036854775807 := by unfold maxLen at hn; exact hn
 have hnn : ((n : Int) != (n : Int)) = false := by simp
 clear hl hca hcb hp hn
 go_enter Try.func17, Try.ntmps17
 go_wp2_with fail
 go_loopw [5] (fun iv wr => ∃ i : Nat, i <= n /\ iv = .int .i64 (i : Int) /\ Hid (Below w.heap.size w wr)) (fun iv _ => n - (intOf iv).toNat)
 case atStart => exact ⟨0, Nat.zero_le _, rfl, Below.refl _ _⟩
 case round =>
  obtain ⟨i, hi, rfl, HBr⟩ := hrel
  by_cases hlt : i < n
  ·have hiz : (i : Int) < (n : Int) := by omega
   have hiL : i < L.length := by rw [HN.out]; exact hlt
   obtain ⟨g, off, ve, rfl, hg, h1, h2, h3⟩ := HA.out i hiL
   obtain ⟨g', off', ve', rfl, hg', h1', h2', h3'⟩ := HB.out i hiL
   have HX : Hid (∀ W, Below w.heap.size w W -> W.cell? ⟨g, off + i * 2, none⟩ = some (.int .i64 L[i].doc) /\ W.cell? ⟨g, off + i * 2 + 1, none⟩ = some ve /\ W.cell? ⟨g', off' + i * 2, none⟩ = some (.int .i64 L[i].doc) /\ W.cell? ⟨g', off' + i * 2 + 1, none⟩ = some ve') := fun W hW =>
    ⟨(hW.cell (p := ⟨g, _, none⟩) hg).trans h1, (hW.cell (p := ⟨g, _, none⟩) hg).trans h2, (hW.cell (p := ⟨g', _, none⟩) hg').trans h1', (hW.cell (p := ⟨g', _, none⟩) hg').trans h2'⟩
   have HSa := Lib.hid h3
   have HSb := Lib.hid h3'
   obtain ⟨bo, bc, hve, -, -⟩ := h3
   obtain ⟨bo', bc', hve', -, -⟩ := h3'
   have hml := HPL.out L[i] (List.getElem_mem hiL)
   obtain ⟨M, hM⟩ : ∃ M, L[i].pos = M := ⟨_, rfl⟩
   rw [hM] at HSa HSb hve hve' hml
   generalize L[i].doc = d at *
   obtain ⟨m, hm⟩ : ∃ m, M.length = m := ⟨_, rfl⟩
   have HM := Lib.hid hm
   rw [hm] at hve hve' hml
   have hmm : m <= 9223372036854775807 := by unfold maxLen at hml; exact hml
   have hmn : ((m : Int) != (m : Int)) = false := by simp
   have hdn : (d != d) = false := by simp
   subst hve hve'
   have HCa : Hid (∀ W, Below w.heap.size w W -> ∀ j (hj : j < M.length), ∃ q o, bo = some ⟨q, o, none⟩ /\ W.cell? ⟨q, o + j, none⟩ = some (.int .i64 M[j])) := fun W hW j hj => by
    obtain ⟨_, _, e, _, h⟩ := HSa.out
    cases e
    obtain ⟨q, o, e, hq, h1⟩ := h j hj
    exact ⟨q, o, e, (hW.cell (p := ⟨q, _, none⟩) hq).trans h1⟩
   have HCb : Hid (∀ W, Below w.heap.size w W -> ∀ j (hj : j < M.length), ∃ q o, bo' = some ⟨q, o, none⟩ /\ W.cell? ⟨q, o + j, none⟩ = some (.int .i64 M[j])) := fun W hW j hj => by
    obtain ⟨_, _, e, _, h⟩ := HSb.out
    cases e
    obtain ⟨q, o, e, hq, h1⟩ := h j hj
    exact ⟨q, o, e, (hW.cell (p := ⟨q, _, none⟩) hq).trans h1⟩
   obtain ⟨x1, x2, x3, x4⟩ := HX.out _ HBr.out
   clear hM hm hml hg hg' h1 h2 h1' h2' HSa HSb
   go_wp2_with fail
   go_quiet (fail)
   have HBn : Hid (Below w.heap.size w (wr.drewN nq)) := by have := HBr.out; exact ⟨this.os, this.tape, this.output, this.size, this.block⟩
   obtain ⟨wn, hwn⟩ : ∃ wn, wr.drewN nq = wn := ⟨_, rfl⟩
   rw [hwn] at HBn ⊢
   clear hwn x1 x2 x3 x4 HBr
   go_wp2_with fail
   go_loopw [6] (fun kv wk => ∃ k : Nat, k <= m /\ kv = .int .i64 (k : Int) /\ Hid (Below w.heap.size w wk)) (fun kv _ => m - (intOf kv).toNat)
   case atStart => exact ⟨0, Nat.zero_le _, rfl, HBn.out⟩
   case round =>
    clear HBn
    obtain ⟨k, hk, rfl, HBk⟩ := hrel
    obtain ⟨x1, x2, x3, x4⟩ := HX.out _ HBk.out
    by_cases hkl : k < m
    ·have hkz : (k : Int) < (m : Int) := by omega
     have hkM : k < M.length := by rw [HM.out]; exact hkl
     obtain ⟨q, o, rfl, y1⟩ := HCa.out _ HBk.out k hkM
     obtain ⟨q', o', rfl, y2⟩ := HCb.out _ HBk.out k hkM
     generalize M[k] = z at *
     have hzn : (z != z) = false := by simp
     go_wp2_with fail
     go_quiet (fail)
     have HBn : Hid (Below w.heap.size w (wr.drewN nq)) := by have := HBk.out; exact ⟨this.os, this.tape, this.output, this.size, this.block⟩
     clear x1 x2 x3 x4 y1 y2
     go_wp2_with fail
     go_roundw
     case rel => exact ⟨k + 1, by omega, by go_num, HBn.out⟩
     case measure => simp [intOf]; omega
    ·obtain rfl : k = m := by omega
     have hkz : ¬ (k : Int) < (k : Int) := by omega
     go_wp2_with fail
     go_roundw
     case rel => exact ⟨i + 1, by omega, by go_num, HBk.out⟩
     case measure => simp [intOf]; omega
  ·obtain rfl : i = n := by omega
   have hiz : ¬ (i : Int) < (i : Int) := by omega
   go_wp2_with fail
   go_ret
   exact ⟨rfl, HBr.out⟩
end Go.Proofs.Ytjcajeilhcjneaa.Po
