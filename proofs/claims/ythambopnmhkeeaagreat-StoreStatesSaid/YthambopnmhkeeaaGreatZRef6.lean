/- What the document's New answers for a number in its range: a new device of empty blocks, in new blocks of memory. -/
import Derived.Test.YthambopnmhkeeaaGreatZRef3
import Derived.Test.YthambopnmhkeeaaGreatZCalls2
import Derived.Test.YthambopnmhkeeaaGreatZFBase
import Derived.Deep.RegionLaw

set_option maxRecDepth 100000
namespace Go.Proofs.YthambopnmhkeeaaGreat
open Go.RowKit
theorem zeros_eq : textOf (fun _ => 0) = noughts := by decide +kernel
set_option maxHeartbeats 1000000 in
theorem rnoughts_any (w : World) : Calls Tryz.prog 68 #[] w fun e w' => e = .returned (.string noughts) /\ Below w.heap.size w w' := by
 obtain ⟨i0, hi, hz0, hz1, hz2⟩ := info_parts Tryz.infoB
 go_enter Tryz.func68, Tryz.ntmps68
 go_wp2_with (at_make; refine wpList_make_full _ rfl _ _ 107 rfl w.heap.size 5 i0 (.int .u8 0) 1 Tryz.underlying107 hi hz0 hz1 _ _ _ _ 256 rfl rfl rfl rfl (by rw [hz2]; decide) (by unfold maxLen; omega) (Nat.le_refl _) ?_)
 intro w1 hown hgrow
 have hrow : Row w.heap.size w1 w.heap.size (fun _ => 0) 256 := by
  show w1.ownsRow _ _ _ _ _ _
  have e : rowI (fun _ => 0) 256 = rowI (fun _ => 0) 0 := by
   unfold rowI
   apply List.map_congr_left
   intro i _
   split <;> split <;> rfl
  rw [e, rowI_zero]
  rw [toList_madeCells_one] at hown
  exact hown
 have hconv := hrow.text
 rw [zeros_eq] at hconv
 have HB : Hid (Below w.heap.size w w1) := (Below.refl _ _).grown hgrow (Nat.le_refl _) (fun k h => by cases h)
 clear hown hgrow hrow
 obtain ⟨T, hT⟩ : ∃ T, noughts = T := ⟨_, rfl⟩
 rw [hT] at hconv
 have HT := Lib.hid hT; clear hT
 go_wp2
 go_ret
 exact ⟨by rw [HT.out]; rfl, HB.out⟩
section
variable {P : Program}
theorem step_append_own {ops : Array Oper} {o : Oper} {a : Act} {w : World} {K : Act -> World -> Prop} {Q : Exit -> Act -> World -> Prop} {E : Prop} (hgd : o.guard = none) (s x : Operand) (t : TypeId)
  (ho : o.op = .call { callee := .builtin .append, args := #[s, x], argTypes := #[t, t] })
  (base : Nat) (e : TypeId) (i : TypeInfo) (z : Value) (size bytes : Nat) (ht : P.underlying t = some (.slice e)) (hi : P.info? e = some i) (hz : i.zero = some z)
  (hsize : i.size = size) (hby : i.bytes = bytes) (hzs : z.cells.size = size) (hsz : 0 < size)
  (v : Value) (n : Nat) (xs : List Value) (hs : a.eval s = v) (hown : w.ownsRow base e size v n xs)
  (ad : Addr) (m c : Nat) (news : List Value) (hx : a.eval x = .slice (some ad) m c) (hl : news.length = m * size) (hnews : ∀ j u, news[j]? = some u -> w.cell? (ad.add j) = some u) (h1 : ∀ u ∈ news, u.oneCell' = true)
  (h63 : n + m <= maxLen) (hbytes : (n + m) * bytes <= 140737488355328) (hbase : base <= w.heap.size)
  (h : ∀ v' w', w'.ownsRow base e size v' (n + m) (xs ++ news) -> w.grownBy w' v.ownBlock -> K (a.put o.dst v') w') :
  if Region.wanted o (yielded ops a.tmps) = true then Oper.wp P o a w K Q else E := by
 have hw : Region.wanted o (yielded ops a.tmps) = true := by simp [Region.wanted, hgd]
 rw [if_pos hw]
 exact wp_append_own w s x t ho base e i z size bytes ht hi hz hsize hby hzs hsz v n xs hs hown ad m c news hx hl hnews h1 h63 hbytes hbase (fun v' w' h2 h3 _ => h v' w' h2 h3)
end
theorem own_ge {w : World} {base : Nat} {e : TypeId} {size n : Nat} {v : Value} {xs : List Value} (h : w.ownsRow base e size v n xs) (k : Nat) (hk : v.ownBlock = some k) : base <= k := by
 rcases h.2 with ⟨rfl, _⟩ | ⟨g, cap, cur, rfl, hb, _⟩
 ·cases hk
 ·simp [Value.ownBlock] at hk; omega
theorem news_at (w : World) (s : ByteArray) (t : TypeId) (j : Nat) (u : Value) (h : [Value.string s][j]? = some u) : (w.alloc (.cells #[.string s] t)).cell? ((⟨w.heap.size, 0, none⟩ : Addr).add j) = some u := by
 cases j with
 | zero =>
  have : u = .string s := by simpa using h.symm
  subst this
  have hadd : (⟨w.heap.size, 0, none⟩ : Addr).add 0 = ⟨w.heap.size, 0, none⟩ := by unfold Addr.add; split <;> simp_all
  rw [hadd, cell_at (heap_alloc_new _ _)]; rfl
 | succ j => simp at h
theorem row_then {w A w' : World} {rr : Nat} {o : Obj} {own : Option Nat} (h : w.heap[rr]? = some o) (ho : Only (fun _ => False) w A) (hg : A.grownBy w' own) (hge : ∀ {k}, own = some k -> rr + 1 <= k) : w'.heap[rr]? = some o := by
 have hlt := (Array.getElem?_eq_some_iff.1 h).1
 rw [hg.block rr (Nat.lt_of_lt_of_le hlt ho.size) (fun e => by have := hge e.symm; omega), ho.block rr hlt (fun f => f), h]
theorem below_then {w0 w A w' : World} {rr : Nat} {own : Option Nat} (hb : Below rr w0 w) (hlt : rr < w.heap.size) (ho : Only (fun _ => False) w A) (hg : A.grownBy w' own) (hge : ∀ {k}, own = some k -> rr + 1 <= k) : Below rr w0 w' :=
 (hb.trans (ho.below (Nat.le_of_lt hlt) (fun _ _ f => f.elim))).grown hg (Nat.le_trans (Nat.le_of_lt hlt) ho.size) (fun k e => by have := hge e; omega)
def nRow (k : Nat) : List Value := (List.replicate k noughts).map Value.string
theorem nRow_succ (k : Nat) : nRow (k + 1) = nRow k ++ [Value.string noughts] := by unfold nRow; rw [List.replicate_succ']; simp
theorem made_stands {w : World} {r n cap : Nat} {ao : Option Addr} (h1 : 1 <= n) (h2 : n <= 4096) (hr : w.heap[r]? = some (.cells #[.slice ao n cap, .slice none 0 0, .int .i64 (-1), .bool false] 51 (0, 0)))
  (ho : w.ownsRow (r + 1) 9 1 (.slice ao n cap) n (nRow n)) : RStands (fun j => j = r \/ (Value.slice ao n cap).ownBlock = some j) w r (DevS.made n) := by
 have hlen : (DevS.made n).disk.length = n := by simp [DevS.made]
 rcases ho.2 with ⟨_, h0⟩ | ⟨g, cap', cur, hv, hb, hg, hrest⟩
 ·omega
 ·simp only [Value.slice.injEq] at hv
  obtain ⟨rfl, _, rfl⟩ := hv
  refine ⟨g, cap, .slice none 0 0, DevS.made_ok n h1 h2, ?_, ?_, World.ownsRow_nil _ _ _ _, by omega, by simp [Value.ownBlock], by simp [Value.ownBlock], .inl rfl, .inr rfl, by simp [Value.ownBlock], ?_⟩
  ·rw [hlen]; exact hr
  ·rw [hlen]; exact ⟨ho.1, .inr ⟨g, cap, cur, rfl, Nat.zero_le _, hg, hrest⟩⟩
  ·rintro k (rfl | hk)
   ·exact (Array.getElem?_eq_some_iff.1 hr).1
   ·simp [Value.ownBlock] at hk; subst hk; exact (Array.getElem?_eq_some_iff.1 hg).1
set_option maxHeartbeats 4000000 in
theorem rnew_yes (n : Nat) (w : World) (h1 : 1 <= n) (h2 : n <= 4096) :
  Calls Tryz.prog 25 #[.int .i64 n] w fun e w' => ∃ r, e = .returned (.tuple #[.pointer (some ⟨r, 0, none⟩), .bool true]) /\ ∃ S : Nat -> Prop, (∀ k, S k -> w.heap.size <= k) /\ RStands S w' r (DevS.made n) /\ Below w.heap.size w w' := by
 have h1' : ¬ ((n : Int) < 1) := by omega
 have h2' : ¬ (4096 : Int) < (n : Int) := by omega
 obtain ⟨i0, hi, hz0, hz1, hz2⟩ := info_parts Tryz.infoS
 have HZ2 := Lib.hid hz2; clear hz2
 obtain ⟨rr, hrr⟩ : ∃ rr, w.heap.size = rr := ⟨_, rfl⟩
 have HRR := Lib.hid hrr
 obtain ⟨N, hN⟩ : ∃ N, noughts = N := ⟨_, rfl⟩
 have HCN : Hid (∀ W, Calls Tryz.prog 68 #[] W fun e w' => e = .returned (.string N) /\ Below W.heap.size W w') := by intro W; have := rnoughts_any W; rw [hN] at this; exact this
 have HNS : Hid (∀ k, nRow (k + 1) = nRow k ++ [Value.string N]) := by intro k; rw [<- hN]; exact nRow_succ k
 go_enter Tryz.func25, Tryz.ntmps25
 go_wp2_with fail
 clear hN
 go_loopw [5] (fun i wr => ∃ (k : Nat) (ao : Option Addr) (cap : Nat), k <= n /\ i = .int .i64 k /\ Hid (wr.heap[rr]? = some (.cells #[.slice ao k cap, .slice none 0 0, .int .i64 (-1), .bool false] 51 (0, 0)) /\ wr.ownsRow (rr + 1) 9 1 (.slice ao k cap) k (nRow k) /\ Below rr w wr)) (fun i _ => n - (intOf i).toNat)
 case atStart =>
  refine ⟨0, none, 0, Nat.zero_le _, rfl, ?_, World.ownsRow_nil _ _ _ _, (Below.refl _ _).alloc (by omega) _⟩
  rw [<- HRR.out, heap_alloc_new]
 case round =>
  obtain ⟨k, ao, cap, hk, rfl, HI⟩ := hrel
  have lr : rr < wr.heap.size := (Array.getElem?_eq_some_iff.1 HI.out.1).1
  by_cases hlt : k < n
  ·have c0 : wr.cell? ⟨rr, 0, none⟩ = some (.slice ao k cap) := by rw [cell_at HI.out.1]; rfl
   have f0 : wr.frozen? ⟨rr, 0, none⟩ = false := free_at HI.out.1 0
   have HL := Lib.hid lr
   clear lr
   go_wp2
   go_region_law (first
    | (refine step_append_own rfl (.tmp 23) (.tmp 25) 47 rfl (rr + 1) 9 i0 (.string ByteArray.empty) 1 16 Tryz.underlying47 hi hz0 hz1 HZ2.out rfl (by omega) (.slice ao k cap) k (nRow k) (by kernel_rfl) ?own ⟨w2.heap.size, 0, none⟩ 1 1 [.string N] (by kernel_rfl) rfl ?news (fun u hu => by simp at hu; subst hu; rfl) (by unfold maxLen; omega) (by omega) ?base ?_
       case own => exact own_kept HI.out.2.1 (HO2.out.alloc _) (fun _ _ h => h)
       case news => exact fun j u h => news_at _ _ _ j u h
       case base => have := HL.out; have := HO2.out.size; simp; omega
       intro v' w' hown hgrow
       have HR3 := Lib.hid (row_then HI.out.1 (HO2.out.alloc _) hgrow (fun e => own_ge HI.out.2.1 _ e))
       have HB3 := Lib.hid (below_then HI.out.2.2 HL.out (HO2.out.alloc _) hgrow (fun e => own_ge HI.out.2.1 _ e))
       obtain ⟨ao', cap', rfl⟩ := own_shape hown
       have HW3 := Lib.hid hown
       have c3 : w'.cell? ⟨rr, 0, none⟩ = some (.slice ao k cap) := by rw [cell_at HR3.out]; rfl
       have f3 : w'.frozen? ⟨rr, 0, none⟩ = false := free_at HR3.out 0
       clear hown hgrow)
    | (go_simp; go_at_call 68; refine (HCN.out _).mono ?_; rintro e w2 ⟨rfl, hb2⟩; have HO2 := Lib.hid (((Only.refl (fun _ => False) wr).drew).trans (Only.of_below (fun _ => False) hb2 (Nat.le_refl _)) (fun _ _ h => h)); have c0' : w2.cell? ⟨rr, 0, none⟩ = some (.slice ao k cap) := (Below.cell hb2 (by have := HL.out; simpa using this)).trans c0; have c0'' : (w2.alloc (.cells #[.string N] 9)).cell? ⟨rr, 0, none⟩ = some (.slice ao k cap) := ((HO2.out.alloc _).cell (p := ⟨rr, 0, none⟩) HL.out (fun f => f)).trans c0; clear hb2))
   all_goals
    have e : nRow (k + 1) = nRow k ++ [Value.string N] := HNS.out k
    have HE := Lib.hid e
    clear e
    go_wp2
    go_roundw
    case rel => 
     refine ⟨k + 1, ao', cap', by omega, by go_num, ?_, ?_, HB3.out.setCell (Nat.le_refl _) _⟩
     ·rw [heap_setCell_at HR3.out]; rfl
     ·rw [HE.out]; exact ownsRow_setCell_other HW3.out (fun e => by have := own_ge HW3.out _ e; simp at this; omega) _
    case measure => simp [intOf]; omega
  ·have hkn : k = n := by omega
   subst hkn
   go_wp2
   go_ret2
   refine ⟨rr, rfl, fun j => j = rr \/ (Value.slice ao k cap).ownBlock = some j, ?_, ?_, by rw [HRR.out]; exact HI.out.2.2⟩
   ·rintro j (rfl | hj)
    ·exact Nat.le_of_eq HRR.out
    ·have := own_ge HI.out.2.1 j hj; have := HRR.out; omega
   ·obtain ⟨H1, H2, H3⟩ := HI.out
    exact made_stands h1 h2 H1 H2
end Go.Proofs.YthambopnmhkeeaaGreat
