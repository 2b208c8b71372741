/- StoreAgain: the walk: opened anew a store is what its commits made of it, however many blocks are kept. -/
import Derived.Test.YthambopnmhkeeaaGreatZXBegin
import Derived.Deep.RegionHeld3

set_option maxRecDepth 100000
namespace Go.Proofs.YthambopnmhkeeaaGreat
open Go.RowKit
set_option maxHeartbeats 400000 in
theorem sfirst_raw {SD : Nat -> Prop} {w : World} {s h j p n : Nat} {D : DevS} (c0 : w.cell? ⟨s, 0, none⟩ = some (.pointer (some ⟨h, 0, none⟩))) (ch : w.cell? ⟨h, 0, none⟩ = some (.pointer (some ⟨j, 0, none⟩))) (cj : w.cell? ⟨j, 0, none⟩ = some (.pointer (some ⟨p, 0, none⟩)))
  (hd : Stands SD w p D) (hn : D.disk.length = n) (h4 : n <= 4096) : Calls Tryz.prog 32 #[.pointer (some ⟨s, 0, none⟩)] w fun e w' => e = .returned (.int .i64 (firstD n : Nat)) /\ w = w' := by
 have CB := Lib.hid (blocks_any hd)
 rw [hn] at CB
 have CF := Lib.hid (firstData_any n h4 w)
 clear hd hn
 generalize firstD n = q at *
 go_enter Tryz.func32, Tryz.ntmps32
 go_wp2_with fail
 refine CB.out.mono ?_
 rintro e w1 ⟨rfl, rfl⟩
 go_wp2_with fail
 refine CF.out.mono ?_
 rintro e w1 ⟨rfl, rfl⟩
 go_wp2
 go_ret
 exact ⟨rfl, rfl⟩
theorem cell_same {w w' : World} {b : Nat} (h : w'.heap[b]? = w.heap[b]?) (i : Nat) : w'.cell? ⟨b, i, none⟩ = w.cell? ⟨b, i, none⟩ := by
 unfold World.cell?
 simp only [h]
def Ag (w0 W1 W : World) (wb s p s2 : Nat) (P : TS) (N mi : Nat) : Prop := ∃ (S2 : Nat -> Prop) (h j : Nat), (∀ k, S2 k -> w0.heap.size <= k) /\ St S2 W s2 p P N mi /\ Below w0.heap.size w0 W /\
 (∀ b, (b = wb \/ b = s \/ b = h \/ b = j) -> ¬ S2 b /\ b < W1.heap.size /\ W.heap[b]? = W1.heap[b]?) /\ W1.heap.size <= W.heap.size /\
 W1.cell? ⟨wb, 1, none⟩ = some (.pointer (some ⟨s, 0, none⟩)) /\ W1.cell? ⟨s, 0, none⟩ = some (.pointer (some ⟨h, 0, none⟩)) /\ W1.cell? ⟨h, 0, none⟩ = some (.pointer (some ⟨j, 0, none⟩)) /\ W1.cell? ⟨j, 0, none⟩ = some (.pointer (some ⟨p, 0, none⟩))
section
variable {w0 W1 W w' : World} {wb s p s2 N N' mi mi' : Nat} {P P' : TS} {f : FuncId} {args : Array Value} {r : Value}
theorem Ag.leaves {S2 : Nat -> Prop} {h j : Nat} (a1 : ∀ k, S2 k -> w0.heap.size <= k) (a3 : Below w0.heap.size w0 W) (a4 : ∀ b, (b = wb \/ b = s \/ b = h \/ b = j) -> ¬ S2 b /\ b < W1.heap.size /\ W.heap[b]? = W1.heap[b]?) (a5 : W1.heap.size <= W.heap.size)
  (a6 : W1.cell? ⟨wb, 1, none⟩ = some (.pointer (some ⟨s, 0, none⟩)) /\ W1.cell? ⟨s, 0, none⟩ = some (.pointer (some ⟨h, 0, none⟩)) /\ W1.cell? ⟨h, 0, none⟩ = some (.pointer (some ⟨j, 0, none⟩)) /\ W1.cell? ⟨j, 0, none⟩ = some (.pointer (some ⟨p, 0, none⟩)))
  (hl : StL S2 W w' s2 p P' N' mi') : Ag w0 W1 w' wb s p s2 P' N' mi' := by
 obtain ⟨S', i1, i2, i3⟩ := hl
 refine ⟨S', h, j, fun k hk => ?_, i2, a3.trans (i3.below a3.size (fun k _ hk => a1 k hk)), fun b hb => ?_, Nat.le_trans a5 i3.size, a6⟩
 ·rcases i1 k hk with h | h
  ·exact a1 k h
  ·have := a3.size; omega
 ·obtain ⟨b1, b2, b3⟩ := a4 b hb
  refine ⟨fun hk => ?_, b2, by rw [i3.block b (by omega) b1]; exact b3⟩
  rcases i1 b hk with h | h
  ·exact b1 h
  ·omega
theorem Ag.bel (g : Ag w0 W1 W wb s p s2 P N mi) : Below w0.heap.size w0 W := by obtain ⟨S2, h, j, a1, a2, a3, _⟩ := g; exact a3
theorem Ag.call (g : Ag w0 W1 W wb s p s2 P N mi) (hc : ∀ S, St S W s2 p P N mi -> Calls Tryz.prog f args W fun e w' => e = .returned r /\ Hid (StL S W w' s2 p P' N' mi')) :
  Calls Tryz.prog f args W fun e w' => e = .returned r /\ Hid (Ag w0 W1 w' wb s p s2 P' N' mi') := by
 obtain ⟨S2, h, j, a1, a2, a3, a4, a5, a6⟩ := g
 exact (hc S2 a2).mono fun e w' ⟨he, hl⟩ => ⟨he, Ag.leaves a1 a3 a4 a5 a6 hl.out⟩
theorem Ag.below (g : Ag w0 W1 W wb s p s2 P N mi) (hb : Below W.heap.size W w') : Ag w0 W1 w' wb s p s2 P N mi := by
 obtain ⟨S2, h, j, a1, a2, a3, a4, a5, a6⟩ := g
 exact ⟨S2, h, j, a1, a2.below hb, a3.trans (hb.mono a3.size), fun b hb2 => ⟨(a4 b hb2).1, (a4 b hb2).2.1, by rw [hb.block b (Nat.lt_of_lt_of_le (a4 b hb2).2.1 a5)]; exact (a4 b hb2).2.2⟩, Nat.le_trans a5 hb.size, a6⟩
theorem Ag.state (g : Ag w0 W1 W wb s p s2 P N mi) (hm : mi + 4096 < 1000000) {T : List UInt8} (hT : P.stateL = T) : Calls Tryz.prog 35 #[.pointer (some ⟨s2, 0, none⟩)] W fun e w' => e = .returned (.string (txt T)) /\ Hid (Ag w0 W1 w' wb s p s2 P N (mi + 4096)) := by
 rw [<- hT]
 exact g.call fun S m => state_any m hm
theorem Ag.free (g : Ag w0 W1 W wb s p s2 P N mi) : Calls Tryz.prog 17 #[.pointer (some ⟨s2, 0, none⟩)] W fun e w' => e = .returned (.int .i64 (Bm.fr P.bits P.n : Nat)) /\ Hid (Ag w0 W1 w' wb s p s2 P N mi) :=
 g.call fun S m => (sfree_any m).mono fun e w' ⟨he, hb⟩ => ⟨he, StL.of_below m hb.out⟩
theorem Ag.first (g : Ag w0 W1 W wb s p s2 P N mi) : Calls Tryz.prog 32 #[.pointer (some ⟨s2, 0, none⟩)] W fun e w' => e = .returned (.int .i64 (firstD P.n : Nat)) /\ W = w' := by
 obtain ⟨S2, h, j, a1, a2, _⟩ := g
 obtain ⟨SH, SC, h, c, C, a, _⟩ := a2
 exact sfirst_any a
theorem Ag.first_old (g : Ag w0 W1 W wb s p s2 P N mi) : Calls Tryz.prog 32 #[.pointer (some ⟨s, 0, none⟩)] W fun e w' => e = .returned (.int .i64 (firstD P.n : Nat)) /\ W = w' := by
 obtain ⟨S2, h, j, a1, a2, a3, a4, a5, a6, a7, a8, a9⟩ := g
 obtain ⟨SH, SC, h', c, C, a, _⟩ := a2
 obtain ⟨j', D, SD, _, _, hd, _, hn, h4, _⟩ := a.head
 exact sfirst_raw (by rw [cell_same (a4 s (by simp)).2.2]; exact a7) (by rw [cell_same (a4 h (by simp)).2.2]; exact a8) (by rw [cell_same (a4 j (by simp)).2.2]; exact a9) hd hn h4
theorem Ag.c1 (g : Ag w0 W1 W wb s p s2 P N mi) : W.cell? ⟨wb, 1, none⟩ = some (.pointer (some ⟨s, 0, none⟩)) := by
 obtain ⟨S2, h, j, a1, a2, a3, a4, a5, a6, _⟩ := g
 rw [cell_same (a4 wb (by simp)).2.2]; exact a6
theorem Ag.wcell (g : Ag w0 W1 W wb s p s2 P N mi) (i : Nat) : W.cell? ⟨wb, i, none⟩ = W1.cell? ⟨wb, i, none⟩ := by
 obtain ⟨S2, h, j, a1, a2, a3, a4, _⟩ := g
 exact cell_same (a4 wb (by simp)).2.2 i
theorem Wx.again (h : Wx w0 W wb s p P N mi) (hn : P.n = 132) (hl : P.H 62 = labelB 132) (hN : N + 1 <= 10000) (m : Nat) (hm1 : 64 <= m) (hm2 : m <= 1024) :
  Calls Tryz.prog 30 #[.pointer (some ⟨p, 0, none⟩), .int .i64 (m : Int)] W fun e w' => ∃ s2, e = .returned (.tuple #[.pointer (some ⟨s2, 0, none⟩), .int .i64 0]) /\ Hid (Ag w0 W w' wb s p s2 (TS.opened P.n P.H) (N + 1) 0) := by
 obtain ⟨S, h⟩ := h
 have c1 := h.c1
 obtain ⟨SH, SC, hh, c, C, sm, kc, ok, _⟩ := h.st
 have s0 := sm.c0
 obtain ⟨SD, j, sv, L, J, D, F, G, g⟩ := sm.home
 have hok : HomeOk P.n P.H := ⟨ok.n0, ok.n1, ok.sH, by rw [hn]; exact hl, by
  unfold rightB
  exact decide_eq_true ((TS.right_map P.n ok.n0 ok.n1 _ (mapT_len P.n P.H ok.sH)).2 ⟨fun i hi => by rw [<- ok.mH]; exact (ok.low i hi).2, fun i hi => by rw [<- ok.mH]; exact (ok.high i hi).2⟩)⟩
 refine (sopen_any g.dev g.sy g.nf g.pd' g.gh hok hN m hm1 hm2).mono ?_
 rintro e w' ⟨s2, S', he, hv⟩
 obtain ⟨v1, v2, v3, v4⟩ := hv.out
 have hsd : ∀ k, SD k -> S k := fun k hk => sm.hS k (g.sd k hk)
 have hsz := h.bel.size
 refine ⟨s2, he, ⟨S', hh, j, fun k hk => ?_, v2, h.bel.trans (v3.below hsz (fun k _ hk => h.own k (hsd k hk))), fun b hb => ?_, v3.size, c1, s0, g.c0, g.jr.c0⟩⟩
 ·rcases v1 k hk with a | a
  ·exact h.own k (hsd k a)
  ·omega
 ·have hb2 : ¬ SD b /\ b < W.heap.size := by
   rcases hb with rfl | rfl | rfl | rfl
   ·exact ⟨fun hk => h.nw (hsd _ hk), h.lt⟩
   ·exact ⟨fun hk => sm.sh (g.sd _ hk), sm.lt⟩
   ·exact ⟨g.dh, g.hlt⟩
   ·exact ⟨g.dj, g.jr.lt⟩
  refine ⟨fun hk => ?_, hb2.2, v3.block b hb2.2 hb2.1⟩
  rcases v1 b hk with a | a
  ·exact hb2.1 a
  ·omega
end
set_option maxHeartbeats 4000000 in
theorem again_walk (v : Value) (c : Int) (L : List Act7) (w : World) (hL : Acts7 w v L) (hc : -9223372036854775808 <= c /\ c <= 9223372036854775807) :
  Calls Tryz.prog 8 #[v, .int .i64 c] w fun e w' => e = .returned (.bool true) /\ Below w.heap.size w w' := by
 have CS := Lib.hid (shown7_any w)
 have CM : Hid (∀ W, Below w.heap.size w W -> Calls Tryz.prog 11 #[v] W fun e w' => e = .returned (.bool (small7 L)) /\ W = w') := fun W hW => small7_any hL hW
 have HA := Lib.hid hL
 obtain ⟨ao, cap, hv⟩ : ∃ ao cap, v = .slice ao L.length cap := by obtain ⟨_, _, ao, cap, hv, _⟩ := hL; exact ⟨ao, cap, hv⟩
 clear hL
 obtain ⟨n, hn⟩ : ∃ n, L.length = n := ⟨_, rfl⟩
 have HN := Lib.hid hn
 rw [hn] at hv
 clear hn
 subst hv
 have HP9 : Hid (∀ W, Calls Tryz.prog 12 #[.int .i64 c, .int .i64 900] W fun e w' => e = .returned (.int .i64 (pickI c 900)) /\ W = w') := fun W => pick7_any c 900 W hc (by omega)
 obtain ⟨kn, hkn, hk900⟩ : ∃ kn : Nat, pickI c 900 = (kn : Int) /\ kn < 900 := by
  have := pickI_lt c 900 (by omega)
  exact ⟨(pickI c 900).toNat, by omega, by omega⟩
 rw [hkn] at HP9
 clear hkn hc
 by_cases hsm : small7 L = true
 ·have hsm' := hsm
  unfold small7 at hsm'
  simp only [decide_eq_true_eq] at hsm'
  obtain ⟨hl80, _⟩ := hsm'
  rw [hsm] at CM
  rw [HN.out] at hl80
  clear hsm
  go_enter Tryz.func8, Tryz.ntmps8
  go_wp2_with fail
  refine CS.out.mono ?_
  rintro e w1 ⟨rfl, HB1⟩
  have CM1 := Lib.hid (CM.out _ HB1.out)
  clear CM CS
  go_wp2_with fail
  refine CM1.out.mono ?_
  rintro e w1' ⟨rfl, rfl⟩
  clear CM1
  have CB := Lib.hid (begin_wx w1)
  go_wp2_with fail
  refine CB.out.mono ?_
  rintro e w2 ⟨wb, mb, s, p, rfl, HL0⟩
  clear CB
  go_wp2_with fail
  go_loopw [10] (fun i wr => ∃ k : Nat, k <= n /\ i = .int .i64 (k : Int) /\ Hid (Lp w1 wr wb s p k)) (fun i _ => n - (intOf i).toNat)
  case atStart => exact ⟨0, Nat.zero_le _, rfl, HL0.out⟩
  case round =>
   obtain ⟨k, hk, rfl, HS⟩ := hrel
   clear HL0
   by_cases hlt : k < n
   ·have hkL : k < L.length := by rw [HN.out]; exact hlt
    obtain ⟨g, off, cap', hv, c0, c1, c2, c3, c4⟩ := HA.out.cell (HB1.out.trans (HS.out.bel.mono HB1.out.size)) k hkL
    obtain ⟨rfl, hnl, rfl⟩ : ao = some ⟨g, off, none⟩ /\ n = L.length /\ cap = cap' := by simpa using hv
    clear hnl hv
    have hop := (HA.out.1 L[k] (List.getElem_mem hkL)).op0
    have HP : Hid (∀ W, Calls Tryz.prog 12 #[.int .i64 L[k].op, .int .i64 11] W fun e w' => e = .returned (.int .i64 (pickI L[k].op 11)) /\ W = w') := fun W => pick7_any L[k].op 11 W hop (by omega)
    have HAk := Lib.hid ((HA.out.1 L[k] (List.getElem_mem hkL)).below HB1.out)
    have CD := Lib.hid (fun (ho : pickI L[k].op 11 < 9) => HS.out.does L[k] HAk.out ho (by omega))
    have HNx := Lib.hid HS.out.next
    clear HAk HS hop
    generalize L[k] = B at *
    obtain ⟨o, ho⟩ : ∃ o, pickI B.op 11 = o := ⟨_, rfl⟩
    rw [ho] at HP CD
    clear ho
    by_cases h9 : o < 9
    ·have CD2 := Lib.hid (CD.out h9)
     clear CD HNx
     go_wp2_with fail
     refine (HP.out _).mono ?_
     rintro e w3 ⟨rfl, rfl⟩
     go_wp2_with fail
     refine CD2.out.mono ?_
     rintro e w3 ⟨x, t, y, rfl, HW3⟩
     clear CD2 c0 c1 c2 c3 c4
     go_wp2
     go_roundw
     case rel => exact ⟨k + 1, by omega, by go_num, HW3.out⟩
     case measure => simp [intOf]; omega
    ·clear CD
     go_wp2_with fail
     refine (HP.out _).mono ?_
     rintro e w3 ⟨rfl, rfl⟩
     go_wp2
     go_roundw
     case rel => exact ⟨k + 1, by omega, by go_num, HNx.out⟩
     case measure => simp [intOf]; omega
   ·obtain ⟨P, N, hx, hN, hn, hlb⟩ := HS.out
    have CA := Lib.hid hx.abort
    have c1 := hx.c1
    have hop : P.undo.op = false := rfl
    have hn0 : P.undo.n = 132 := hn
    have hl0 : P.undo.H 62 = labelB 132 := hlb
    clear hx HS hn hlb
    generalize P.undo = P0 at *
    go_wp2_with fail
    refine CA.out.mono ?_
    rintro e w3 ⟨rfl, HX3⟩
    clear CA c1
    have ok0 := HX3.out.ok
    obtain ⟨ok9, st9, bt9⟩ := ok0.open_same hop
    obtain ⟨T, hT⟩ : ∃ T, P0.stateL = T := ⟨_, rfl⟩
    rw [hT] at st9
    have ST9 := Lib.hid st9; have BT9 := Lib.hid bt9
    have CSt := Lib.hid (HX3.out.state (by omega) hT)
    have c1 := HX3.out.c1
    clear ok9 st9 bt9 ok0 hT
    go_wp2_with fail
    refine CSt.out.mono ?_
    rintro e w4 ⟨rfl, HX4⟩
    clear CSt c1 HX3
    have CF := Lib.hid HX4.out.free
    have c1 := HX4.out.c1
    go_wp2_with fail
    refine CF.out.mono ?_
    rintro e w5 ⟨rfl, HX5⟩
    clear CF c1 HX4
    have c0 := HX5.out.c0
    have e64 : ((64 + kn : Nat) : Int) = 64 + (kn : Int) := by omega
    have CO : Hid (∀ X, Below w5.heap.size w5 X -> Calls Tryz.prog 30 #[.pointer (some ⟨p, 0, none⟩), .int .i64 (64 + (kn : Int))] X fun e w' => ∃ s2 X', e = .returned (.tuple #[.pointer (some ⟨s2, 0, none⟩), .int .i64 0]) /\ Hid (Ag w1 X' w' wb s p s2 (TS.opened P0.n P0.H) (N + 1) 0) /\ w'.cell? ⟨wb, 0, none⟩ = some (.pointer (some ⟨p, 0, none⟩))) := fun X hX => by
     have h := HX5.out.below hX
     have := h.again hn0 hl0 (by omega) (64 + kn) (by omega) (by omega)
     rw [e64] at this
     exact this.mono fun e w' ⟨s2, he, hg⟩ => ⟨s2, X, he, hg, by rw [hg.out.wcell]; exact h.c0⟩
    have HP9b : Hid (∀ W, Calls Tryz.prog 12 #[.int .i64 c, .int .i64 900] W fun e w' => e = .returned (.int .i64 (kn : Int)) /\ Below W.heap.size W w') := fun W => (HP9.out W).mono fun e w' ⟨h1, h2⟩ => ⟨h1, by rw [<- h2]; exact Below.refl _ _⟩
    have HKB : Hid (∀ W, Below w5.heap.size w5 W -> W.cell? ⟨wb, 0, none⟩ = some (.pointer (some ⟨p, 0, none⟩))) := fun W hW => (HX5.out.below hW).c0
    have w64 : IntKind.i64.wrap (64 + (kn : Int)) = 64 + (kn : Int) := IntWalk.i64_in _ (by omega)
    clear e64 hl0
    have N9 : Hid ((TS.opened P0.n P0.H).n = P0.n) := rfl
    generalize TS.opened P0.n P0.H = P9 at *
    have BN : Hid (Bm.fr P9.bits P9.n = Bm.fr P0.bits P0.n) := by
     show _ = _
     rw [BT9.out, N9.out]
    generalize Bm.fr P0.bits P0.n = FR at *
    go_wp2_with fail
    go_region_held3 (fun W : World => W.cell? ⟨wb, 0, none⟩ = some (.pointer (some ⟨p, 0, none⟩)))
     (first | exact c0 | assumption)
     (first
      | (go_at_call 12; refine (HP9b.out _).mono ?_; rintro e w6 ⟨rfl, hb6'⟩; have hb6 : Below w5.heap.size w5 w6 := (by first | exact Fr.below_predrew hb6' | exact hb6'); have hh6 := HKB.out _ hb6)
      | (go_at_call 30; refine (CO.out _ hb6).mono ?_; rintro e w7 ⟨s2, W1, rfl, HG6, hh7⟩))
    clear CO c0 HX5 hb6 hh6 hh7 HKB
    have HKC : Hid (∀ W N mi, Ag w1 W1 W wb s p s2 P9 N mi -> W.cell? ⟨wb, 1, none⟩ = some (.pointer (some ⟨s, 0, none⟩))) := fun W N mi g => g.c1
    have c1 := HG6.out.c1
    have C1 : Hid (∀ W, Below w7.heap.size w7 W -> Calls Tryz.prog 35 #[.pointer (some ⟨s2, 0, none⟩)] W fun e w' => e = .returned (.string (txt T)) /\ Hid (Ag w1 W1 w' wb s p s2 P9 (N + 1) 4096) /\ w'.cell? ⟨wb, 1, none⟩ = some (.pointer (some ⟨s, 0, none⟩))) := fun W hW =>
     ((HG6.out.below hW).state (by omega) ST9.out).mono fun e w' ⟨he, hg⟩ => ⟨he, by rw [Nat.zero_add] at hg; exact hg, hg.out.c1⟩
    have C2 : Hid (∀ W, Ag w1 W1 W wb s p s2 P9 (N + 1) 4096 -> Calls Tryz.prog 17 #[.pointer (some ⟨s2, 0, none⟩)] W fun e w' => e = .returned (.int .i64 (FR : Nat)) /\ Hid (Ag w1 W1 w' wb s p s2 P9 (N + 1) 4096) /\ w'.cell? ⟨wb, 1, none⟩ = some (.pointer (some ⟨s, 0, none⟩))) := fun W g => by
     have := g.free
     rw [BN.out] at this
     exact this.mono fun e w' ⟨he, hg⟩ => ⟨he, hg, hg.out.c1⟩
    obtain ⟨q, hq⟩ : ∃ q, firstD P9.n = q := ⟨_, rfl⟩
    have C3 : Hid (∀ x W, x = s \/ x = s2 -> Ag w1 W1 W wb s p s2 P9 (N + 1) 4096 -> Calls Tryz.prog 32 #[.pointer (some ⟨x, 0, none⟩)] W fun e w' => e = .returned (.int .i64 (q : Nat)) /\ Hid (Ag w1 W1 w' wb s p s2 P9 (N + 1) 4096) /\ w'.cell? ⟨wb, 1, none⟩ = some (.pointer (some ⟨s, 0, none⟩))) := fun x W hx g => by
     rw [<- hq]
     rcases hx with rfl | rfl
     ·exact g.first_old.mono fun e w' ⟨he, hw⟩ => ⟨he, by rw [<- hw]; exact Lib.hid g, by rw [<- hw]; exact g.c1⟩
     ·exact g.first.mono fun e w' ⟨he, hw⟩ => ⟨he, by rw [<- hw]; exact Lib.hid g, by rw [<- hw]; exact g.c1⟩
    clear hq
    go_wp2_with fail
    go_region_held3 (fun W : World => W.cell? ⟨wb, 1, none⟩ = some (.pointer (some ⟨s, 0, none⟩)))
     (first | exact c1 | assumption)
     (first
      | (go_at_call 35; refine (C1.out _ ((Below.refl _ _).drew)).mono ?_; rintro e w8 ⟨rfl, HG8, hh8⟩)
      | (go_at_call 17; refine (C2.out _ HG8.out).mono ?_; rintro e w9 ⟨rfl, HG9, hh9⟩)
      | (go_at_call 32; refine (C3.out _ _ (Or.inl rfl) HG10.out).mono ?_; rintro e w11 ⟨rfl, HG11, hh11⟩)
      | (go_at_call 32; refine (C3.out _ _ (Or.inr rfl) HG9.out).mono ?_; rintro e w10 ⟨rfl, HG10, hh10⟩))
    have HB11 : Hid (Below w.heap.size w w11) := HB1.out.trans (HG11.out.bel.mono HB1.out.size)
    clear HG11 HG10 HG9 HG8 HG6 C1 C2 C3
    go_wp2
    go_ret
    exact ⟨rfl, HB11.out⟩
 ·have hsm' : small7 L = false := by simpa using hsm
  rw [hsm'] at CM
  clear hsm hsm' HA
  go_enter Tryz.func8, Tryz.ntmps8
  go_wp2_with fail
  refine CS.out.mono ?_
  rintro e w1 ⟨rfl, HB1⟩
  have CM1 := Lib.hid (CM.out _ HB1.out)
  clear CM CS
  go_wp2_with fail
  refine CM1.out.mono ?_
  rintro e w1' ⟨rfl, rfl⟩
  clear CM1
  go_wp2
  go_ret
  exact ⟨rfl, HB1.out⟩
end Go.Proofs.YthambopnmhkeeaaGreat
