/- The document's own journal: what Home, place and Checkpoint answer and leave behind: the same. -/
import Derived.Test.YthambopnmhkeeaaGreatZSSteady
import Derived.Test.YthambopnmhkeeaaGreatZRef3
import Derived.Test.YthambopnmhkeeaaGreatZRef6
import Derived.Test.YthambopnmhkeeaaGreatZJSlot
import Derived.Test.YthambopnmhkeeaaGreatZFUnpR
import Derived.Test.YthambopnmhkeeaaGreatZFBase

set_option maxRecDepth 100000
namespace Go.Proofs.YthambopnmhkeeaaGreat
open Go.RowKit
section
variable {w : World} {a p : Nat} {J : JS} {n : Nat}
set_option maxHeartbeats 400000 in
theorem vplace_any (i : Nat) (h : Jr 136 w a p J) (ok : J.Ok n) (hn : n <= 4096) (hi : i <= 10000) :
  Calls Tryz.prog 181 #[.pointer (some ⟨a, 0, none⟩), .int .i64 (i : Int)] w fun e w' => e = .returned (.int .i64 ((2 + (J.p + i) % J.log : Nat) : Int)) /\ w' = w.drew := by
 have c3 := h.c3; have c4 := h.c4; clear h
 have h1 := ok.l1; have h2 := ok.l0; have h3 := ok.pl
 clear ok
 generalize J.log = l at *
 generalize J.p = q at *
 have w2 : ((q : Int) + (i : Int)).tmod (l : Int) = (((q + i) % l : Nat) : Int) := by rw [Int.tmod_eq_emod_of_nonneg (by omega)]; simp
 have w1 : IntKind.i64.wrap ((q : Int) + (i : Int)) = (q : Int) + (i : Int) := IntWalk.i64_in _ (by omega)
 have hm := Nat.mod_lt (q + i) (show 0 < l by omega)
 generalize (q + i) % l = r at *
 have w3 : IntKind.i64.wrap (r : Int) = (r : Int) := IntWalk.i64_in _ (by omega)
 have w4 : IntKind.i64.wrap (2 + (r : Int)) = 2 + (r : Int) := IntWalk.i64_in _ (by omega)
 have hl0 : ((l : Int) == 0) = false := beq_eq_false_iff_ne.2 (by omega)
 have hl1 : ((l : Int) == -1) = false := beq_eq_false_iff_ne.2 (by omega)
 have e' : ((2 + r : Nat) : Int) = 2 + (r : Int) := by omega
 rw [e']
 clear e'
 go_enter Tryz.func181, Tryz.ntmps181
 go_wp2
 go_region
 go_wp2
 go_ret
 exact ⟨rfl, rfl⟩
end
theorem stl1 (D : DevS) (i : Int) (s : ByteArray) : D.stl [(i, s)] = if (D.wr i s).1 ≠ 0 then D.wr i s else (D.wr i s).2.fl := by
 have e : D.wrs [(i, s)] = if (D.wr i s).1 ≠ 0 then D.wr i s else (0, (D.wr i s).2) := rfl
 unfold DevS.stl
 rw [e]
 by_cases h : (D.wr i s).1 ≠ 0
 ·rw [if_pos h, if_pos h]
 ·rw [if_neg h, if_neg h]
  rfl
def ckpR (J : JS) (R1 R2 R3 R4 : Int × DevS) : Int × DevS × JS :=
 if R1.1 ≠ 0 then (R1.1, R1.2, J) else if R2.1 ≠ 0 then (R2.1, R2.2, J) else if R3.1 ≠ 0 then (R3.1, R3.2, J) else if R4.1 ≠ 0 then (R4.1, R4.2, J) else (0, R4.2, J.next')
theorem ckp_calls (J : JS) (D : DevS) {R1 R2 R3 R4 : Int × DevS} (h1 : D.wr ((J.pos 0 : Nat) : Int) noughts = R1) (h2 : R1.2.fl = R2) (h3 : R2.2.wr ((1 - J.side : Nat) : Int) (slotB ((J.e + 1) % 18446744073709551616) J.next J.log (J.pos 0 - 2)) = R3) (h4 : R3.2.fl = R4) : J.ckp D = ckpR J R1 R2 R3 R4 := by
 unfold JS.ckp ckpR
 simp only [stl1, h1, h2]
 by_cases e1 : R1.1 ≠ 0
 ·rw [if_pos e1, if_pos e1, if_pos e1]
 ·rw [if_neg e1, if_neg e1]
  by_cases e2 : R2.1 ≠ 0
  ·rw [if_pos e2, if_pos e2]
  ·rw [if_neg e2, if_neg e2]
   simp only [h3, h4]
   by_cases e3 : R3.1 ≠ 0
   ·rw [if_pos e3, if_pos e3, if_pos e3]
   ·rw [if_neg e3, if_neg e3]
def RJLeaves (S : Nat -> Prop) (w w' : World) (a r : Nat) (D' : DevS) (J' : JS) : Prop :=
 ∃ S' : Nat -> Prop, (∀ k, S' k -> S k \/ w.heap.size <= k) /\ RStands S' w' r D' /\ Jr 136 w' a r J' /\ Only (fun k => S k \/ k = a) w w'
section
variable {S S1 : Nat -> Prop} {w w1 w2 : World} {a r : Nat} {J J1 J2 : JS} {D D1 D2 : DevS}
theorem RJLeaves.next (hS1 : ∀ k, S1 k -> S k \/ w.heap.size <= k) (ho : Only (fun k => S k \/ k = a) w w1) (h : RJLeaves S1 w1 w2 a r D2 J2) : RJLeaves S w w2 a r D2 J2 := by
 obtain ⟨S2, hS2, hs, hj, ho2⟩ := h
 refine ⟨S2, fun k hk => ?_, hs, hj, ho.trans ho2 (fun i hi h1 => ?_)⟩
 ·rcases hS2 k hk with h | h
  ·exact hS1 k h
  ·exact .inr (Nat.le_trans ho.size h)
 ·rcases h1 with h1 | h1
  ·rcases hS1 i h1 with h | h
   ·exact .inl h
   ·omega
  ·exact .inr h1
theorem RJLeaves.from (hb : Below w.heap.size w w1) (h : RJLeaves S w1 w2 a r D2 J2) : RJLeaves S w w2 a r D2 J2 :=
 RJLeaves.next (fun _ h => .inl h) (Only.of_below _ hb (Nat.le_refl _)) h
structure RJ (w0 w : World) (S : Nat -> Prop) (a r : Nat) (J : JS) (D : DevS) (T : Nat -> Prop) : Prop where
 jr : Jr 136 w a r J
 dev : RStands S w r D
 na : ¬ S a
 own : ∀ k, S k -> T k \/ w0.heap.size <= k
 only : Only (fun k => T k \/ k = a) w0 w
theorem RJ.start (hj : Jr 136 w a r J) (hd : RStands S w r D) (ha : ¬ S a) : RJ w w S a r J D S := ⟨hj, hd, ha, fun _ => .inl, Only.refl _ _⟩
variable {w0 : World} {T : Nat -> Prop}
theorem RJ.below (h : RJ w0 w S a r J D T) (hb : Below w.heap.size w w1) : RJ w0 w1 S a r J D T :=
 ⟨h.jr.below hb, h.dev.below hb, h.na, h.own, h.only.trans (Only.of_below (fun _ => False) hb (Nat.le_refl _)) (fun _ _ f => f.elim)⟩
theorem RJ.leaves (h : RJ w0 w S a r J D T) (hl : RLeaves S w w1 r D1) : ∃ S', RJ w0 w1 S' a r J D1 T := by
 obtain ⟨S', hS', hs, ho⟩ := hl
 have hla := h.jr.lt
 refine ⟨S', h.jr.only ho h.na, hs, fun hk => ?_, fun k hk => ?_, h.only.trans ho (fun i hi hs => ?_)⟩
 ·rcases hS' a hk with h1 | h1
  ·exact h.na h1
  ·omega
 ·rcases hS' k hk with h1 | h1
  ·exact h.own k h1
  ·exact .inr (Nat.le_trans h.only.size h1)
 ·rcases h.own i hs with h1 | h1
  ·exact .inl h1
  ·omega
theorem RJ.ends (h : RJ w0 w S a r J D T) : RJLeaves T w0 w a r D J := ⟨S, h.own, h.dev, h.jr, h.only⟩
theorem RJ.put {J' : JS} {i : Nat} {v : Value} (h : RJ w0 w S a r J D T) (hc : (JCells r J).setIfInBounds i v = JCells r J') : RJ w0 (w.setCell ⟨a, i, none⟩ v) S a r J' D T := by
 have ho : Only (fun k => k = a) w (w.setCell ⟨a, i, none⟩ v) := (Only.refl (fun k => k = a) w).setCell (p := ⟨a, i, none⟩) (fun _ => rfl) _
 exact ⟨h.jr.put hc, h.dev.kept ho (fun k hk e => h.na (e ▸ hk)), h.na, h.own, h.only.trans ho (fun i _ hi => .inr hi)⟩
theorem RJ.write (h : RJ w0 w S a r J D T) (i : Int) (s : ByteArray) (hp : D.pend.length <= 900000) {R : Int × DevS} (hR : D.wr i s = R) : Calls Tryz.prog 29 #[.pointer (some ⟨r, 0, none⟩), .int .i64 i, .string s] w fun e w' => e = .returned (.int .i64 R.1) /\ ∃ S', RJ w0 w' S' a r J R.2 T := by
 subst hR
 exact (rwrite_any i s (by omega) h.dev).mono fun e w' ⟨he, hl⟩ => ⟨he, h.leaves hl⟩
theorem RJ.flush (h : RJ w0 w S a r J D T) (hp : D.pend.length <= 900000) {R : Int × DevS} (hR : D.fl = R) : Calls Tryz.prog 137 #[.pointer (some ⟨r, 0, none⟩)] w fun e w' => e = .returned (.int .i64 R.1) /\ ∃ S', RJ w0 w' S' a r J R.2 T := by
 subst hR
 exact (rflush_any (by omega) h.dev).mono fun e w' ⟨he, hs, ho⟩ => ⟨he, h.leaves (.mk hs ho)⟩
end
section
variable {S : Nat -> Prop} {w : World} {a r : Nat} {J : JS} {D : DevS}
set_option maxHeartbeats 4000000 in
theorem vckp_any (hj : Jr 136 w a r J) (hd : RStands S w r D) (ha : ¬ S a) (ok : J.Ok D.disk.length) (hp : D.pend.length <= 800000) :
  Calls Tryz.prog 141 #[.pointer (some ⟨a, 0, none⟩)] w fun e w' => e = .returned (.int .i64 (J.ckp D).1) /\ RJLeaves S w w' a r (J.ckp D).2.1 (J.ckp D).2.2 := by
 have hn := hd.ok.few
 have HJ0 := Lib.hid (RJ.start hj hd ha)
 have CP : Hid (∀ W, Below w.heap.size w W -> Calls Tryz.prog 181 #[.pointer (some ⟨a, 0, none⟩), .int .i64 (J.full : Int)] W fun e w' => e = .returned (.int .i64 ((J.pos 0 : Nat) : Int)) /\ w' = W.drew) := fun W hW => vplace_any J.full (hj.below hW) ok hn (by have := ok.fu; have := ok.l1; omega)
 have c0 := hj.c0; have c7 := hj.c7
 obtain ⟨R1, h1⟩ : ∃ R, D.wr ((J.pos 0 : Nat) : Int) noughts = R := ⟨_, rfl⟩
 obtain ⟨R2, h2⟩ : ∃ R, R1.2.fl = R := ⟨_, rfl⟩
 obtain ⟨R3, h3⟩ : ∃ R, R2.2.wr ((1 - J.side : Nat) : Int) (slotB ((J.e + 1) % 18446744073709551616) J.next J.log (J.pos 0 - 2)) = R := ⟨_, rfl⟩
 obtain ⟨R4, h4⟩ : ∃ R, R3.2.fl = R := ⟨_, rfl⟩
 have HC := Lib.hid (ckp_calls J D h1 h2 h3 h4)
 have p1 : R1.2.pend.length <= 800001 := by rw [<- h1]; have := D.wr_len ((J.pos 0 : Nat) : Int) noughts; omega
 have p2 : R2.2.pend.length <= 800001 := by rw [<- h2]; have := R1.2.fl_len; omega
 have p3 : R3.2.pend.length <= 800002 := by rw [<- h3]; have := R2.2.wr_len ((1 - J.side : Nat) : Int) (slotB ((J.e + 1) % 18446744073709551616) J.next J.log (J.pos 0 - 2)); omega
 have CW : Hid (∀ W, Below w.heap.size w W -> Calls Tryz.prog 29 #[.pointer (some ⟨r, 0, none⟩), .int .i64 ((J.pos 0 : Nat) : Int), .string noughts] W fun e w' => e = .returned (.int .i64 R1.1) /\ ∃ S', RJ w w' S' a r J R1.2 S) := fun W hW => (HJ0.out.below hW).write _ _ (by omega) h1
 have H2 := Lib.hid h2; have H3 := Lib.hid h3; have H4 := Lib.hid h4
 rw [HC.out]
 have hsi := ok.si; have hl1 := ok.l1; have hl0 := ok.l0; have hfu := ok.fu; have hpl := ok.pl
 have hps := ok.pos_lt 0
 have HOK := Lib.hid ok
 have hal := hj.lt
 have CN := Lib.hid rnoughts_any
 clear h1 h2 h3 h4 HC hj hd ha ok
 have hq0 : J.pos 0 = 2 + (J.p + J.full) % J.log := rfl
 obtain ⟨q, hq⟩ : ∃ q, (J.p + J.full) % J.log = q := ⟨_, rfl⟩
 rw [hq] at hq0
 rw [hq0] at CP CW H3 hps
 rw [Nat.add_sub_cancel_left] at H3
 obtain ⟨E, hE⟩ : ∃ x : Nat, (J.e + 1) % 18446744073709551616 = x := ⟨_, rfl⟩
 rw [hE] at H3
 obtain ⟨NT, hNT⟩ : ∃ T, noughts = T := ⟨_, rfl⟩
 rw [hNT] at CW CN
 clear hNT
 have HQ := Lib.hid hq; have HQ0 := Lib.hid hq0; have HE := Lib.hid hE
 clear hq hq0 hE
 obtain ⟨ps, hps2⟩ : ∃ ps : Int, ((2 + q : Nat) : Int) = ps := ⟨_, rfl⟩
 rw [hps2] at CP CW
 clear hps2
 obtain ⟨e1, D1⟩ := R1
 go_enter Tryz.func141, Tryz.ntmps141
 go_wp2_with fail
 go_region_held3 (fun W => W.cell? ⟨a, 0, none⟩ = some (.pointer (some ⟨r, 0, none⟩)) /\ W.cell? ⟨a, 7, none⟩ = some (.int .i64 (J.full : Int)))
  (first | exact ⟨c0, c7⟩ | assumption)
  (first
   | (go_at_call 181; refine (CP.out _ ((Below.refl _ _).drew)).mono ?_; rintro e w1 ⟨rfl, rfl⟩)
   | (go_at_call 68; refine (CN.out _).mono ?_; rintro e w2 ⟨rfl, hb2'⟩; have hb2 : Below w.heap.size w w2 := Fr.below_predrew (Fr.below_predrew hb2'); have hh2 : w2.cell? ⟨a, 0, none⟩ = some (.pointer (some ⟨r, 0, none⟩)) /\ w2.cell? ⟨a, 7, none⟩ = some (.int .i64 (J.full : Int)) := ⟨(hb2.cell (p := ⟨a, 0, none⟩) hal).trans c0, (hb2.cell (p := ⟨a, 7, none⟩) hal).trans c7⟩)
   | (go_at_call 29; refine (CW.out _ hb2).mono ?_; rintro e w3 ⟨rfl, S3, hr3⟩; have hh3 : w3.cell? ⟨a, 0, none⟩ = some (.pointer (some ⟨r, 0, none⟩)) /\ w3.cell? ⟨a, 7, none⟩ = some (.int .i64 (J.full : Int)) := ⟨hr3.jr.c0, hr3.jr.c7⟩))
 have HR3 := Lib.hid hr3
 clear hr3 hh3 hh2 hb2' hb2 CP CW CN c0 c7
 obtain ⟨e2, D2⟩ := R2
 obtain ⟨e3, D3⟩ := R3
 obtain ⟨e4, D4⟩ := R4
 simp only at p1 p2 p3 H2 H3 H4 HR3
 by_cases he1 : e1 = 0
 ·have b1 : (e1 != 0) = false := by simp [he1]
  have CF := Lib.hid (HR3.out.flush (by omega) H2.out)
  have c0 := HR3.out.jr.c0
  go_wp2_with fail
  refine CF.out.mono ?_
  rintro e w4 ⟨rfl, S4, hr4⟩
  have HR4 := Lib.hid hr4
  have HK4 : Hid (w4.cell? ⟨a, 0, none⟩ = some (.pointer (some ⟨r, 0, none⟩))) := hr4.jr.c0
  clear hr4 CF c0 HR3
  by_cases he2 : e2 = 0
  ·have b2 : (e2 != 0) = false := by simp [he2]
   have c1 := HR4.out.jr.c1; have c3 := HR4.out.jr.c3; have c4 := HR4.out.jr.c4; have c6 := HR4.out.jr.c6; have c7 := HR4.out.jr.c7
   have hl4 := HR4.out.jr.lt
   have hne : w4.heap.size ≠ a := by omega
   have wE : IntKind.u64.wrap ((J.e : Int) + 1) = (E : Int) := by rw [<- HE.out]; simp [IntKind.wrap, IntKind.bits, IntKind.signed]
   have wm : ((J.p : Int) + (J.full : Int)).tmod (J.log : Int) = (q : Int) := by rw [Int.tmod_eq_emod_of_nonneg (by omega), <- HQ.out]; simp
   have hl0' : ((J.log : Int) == 0) = false := beq_eq_false_iff_ne.2 (by omega)
   have hl1' : ((J.log : Int) == -1) = false := beq_eq_false_iff_ne.2 (by omega)
   have wq : IntKind.i64.wrap (q : Int) = (q : Int) := IntWalk.i64_in _ (by omega)
   have ws : IntKind.i64.wrap ((J.p : Int) + (J.full : Int)) = (J.p : Int) + (J.full : Int) := IntWalk.i64_in _ (by omega)
   go_wp2_with fail
   have hal4 : ∀ (o : Obj) (i : Nat), (w4.drew.alloc o).cell? ⟨a, i, none⟩ = w4.cell? ⟨a, i, none⟩ := fun o i => (((Below.refl w4.heap.size w4).drew.alloc (Nat.le_refl _) o).cell (p := ⟨a, i, none⟩) hl4)
   have HAL := Lib.hid hal4; clear hal4
   have wm2 : ((J.p : Int) + (J.full : Int)) % (J.log : Int) = (q : Int) := by rw [<- HQ.out]; simp
   have hl2' : ¬ ((J.log : Int) = 0) := by omega
   have hl3' : ¬ ((J.log : Int) = -1) := by omega
   have hl4' : ¬ (J.log = 0) := by omega
   have hl5' : (J.log == 0) = false := beq_eq_false_iff_ne.2 hl4'
   go_region_held3 (fun W => W.cell? ⟨a, 1, none⟩ = some (.int .u64 (J.e : Int)) /\ W.cell? ⟨a, 3, none⟩ = some (.int .i64 (J.log : Int)) /\ W.cell? ⟨a, 4, none⟩ = some (.int .i64 (J.p : Int)) /\ W.cell? ⟨a, 6, none⟩ = some (.int .u64 (J.next : Int)) /\ W.cell? ⟨a, 7, none⟩ = some (.int .i64 (J.full : Int)))
    (first | exact ⟨c1, c3, c4, c6, c7⟩ | exact ⟨(HAL.out _ 1).trans c1, (HAL.out _ 3).trans c3, (HAL.out _ 4).trans c4, (HAL.out _ 6).trans c6, (HAL.out _ 7).trans c7⟩ | assumption)
    (fail)
   all_goals
    rename_i hHeld4
    clear hHeld4 HAL wm2 hl2' hl3' hl4' hl5'
    obtain ⟨X, hX⟩ : ∃ X, (w4.alloc (.cells #[.int .u64 (E : Int), .int .u64 (J.next : Int), .int .i64 (J.log : Int), .int .i64 (q : Int)] 134)).drew = X := ⟨_, rfl⟩
    rw [hX]
    have hbX : Below w4.heap.size w4 X := by rw [<- hX]; exact ((Below.refl _ _).alloc (Nat.le_refl _) _).drew
    have hxh : X.heap[w4.heap.size]? = some (.cells #[.int .u64 (E : Int), .int .u64 (J.next : Int), .int .i64 (J.log : Int), .int .i64 (q : Int)] 134 (0, 0)) := by rw [<- hX]; exact heap_alloc_new ..
    obtain ⟨g, hg⟩ : ∃ g, w4.heap.size = g := ⟨_, rfl⟩
    have hrX := HR4.out.below hbX
    have hgS : ¬ S4 g := fun h => by have := HR4.out.dev.lt g h; omega
    have hgl : g < X.heap.size := by rw [<- hg]; exact (Array.getElem?_eq_some_iff.1 hxh).1
    rw [hg] at hxh hne ⊢
    have HXH := Lib.hid hxh; have HRX := Lib.hid hrX; have HGS := Lib.hid hgS
    have hga : g ≠ a := hne
    clear hX hg hbX hrX hgS c1 c3 c4 c6 c7 wE wm wq ws hl0' hl1' hne HR4 HK4
    obtain ⟨tt, htt⟩ : ∃ t, slotB E J.next J.log q = t := ⟨_, rfl⟩
    have CT : Hid (∀ W, Calls Tryz.prog 136 #[.agg #[.int .u64 (E : Int), .int .u64 (J.next : Int), .int .i64 (J.log : Int), .int .i64 (q : Int)]] W fun r w' => r = .returned (.string tt) /\ Below W.heap.size W w') := fun W => by
     rw [<- htt]; exact vtext_any E J.next J.log q W (by rw [<- HE.out]; exact Nat.mod_lt _ (by omega)) HOK.out.n64 (by omega) (by omega)
    rw [htt] at H3
    clear htt
    obtain ⟨sd, hsd⟩ : ∃ sd : Nat, 1 - J.side = sd := ⟨_, rfl⟩
    rw [hsd] at H3
    have w1s : IntKind.i64.wrap ((1 : Int) - (J.side : Int)) = (sd : Int) := by rw [show (1 : Int) - (J.side : Int) = (sd : Int) by omega]; exact IntWalk.i64_in _ (by omega)
    have HSD := Lib.hid hsd
    have HSD1 : Hid ((1 : Int) - (J.side : Int) = (sd : Int)) := by show _ = _; omega
    clear hsd
    have HKX : Hid (∀ W : World, W.heap[g]? = some (.cells #[.int .u64 (E : Int), .int .u64 (J.next : Int), .int .i64 (J.log : Int), .int .i64 (q : Int)] 134 (0, 0)) -> Jr 136 W a r J -> W.cell? ⟨a, 0, none⟩ = some (.pointer (some ⟨r, 0, none⟩)) /\ W.cell? ⟨a, 5, none⟩ = some (.int .i64 (J.side : Int)) /\ W.cell? ⟨g, 0, none⟩ = some (.int .u64 (E : Int)) /\ W.cell? ⟨g, 1, none⟩ = some (.int .u64 (J.next : Int)) /\ W.cell? ⟨g, 2, none⟩ = some (.int .i64 (J.log : Int)) /\ W.cell? ⟨g, 3, none⟩ = some (.int .i64 (q : Int))) := fun W h1 h2 =>
     ⟨h2.c0, h2.c5, by rw [cell_at h1]; rfl, by rw [cell_at h1]; rfl, by rw [cell_at h1]; rfl, by rw [cell_at h1]; rfl⟩
    have CW3 : Hid (∀ W, Below X.heap.size X W -> Calls Tryz.prog 29 #[.pointer (some ⟨r, 0, none⟩), .int .i64 (sd : Int), .string tt] W fun e w' => e = .returned (.int .i64 e3) /\ (∃ S', RJ w w' S' a r J D3 S /\ ¬ S' g) /\ w'.heap[g]? = some (.cells #[.int .u64 (E : Int), .int .u64 (J.next : Int), .int .i64 (J.log : Int), .int .i64 (q : Int)] 134 (0, 0))) := fun W hW => by
     have h2 := HRX.out.below hW
     have := rwrite_any (sd : Int) tt (by omega) h2.dev
     rw [H3.out] at this
     refine this.mono fun e w' ⟨he, hl⟩ => ?_
     obtain ⟨S', j1, j2, j3⟩ := hl
     have hgW : g < W.heap.size := Nat.lt_of_lt_of_le hgl hW.size
     obtain ⟨S'', hq⟩ : ∃ S'', RJ w w' S'' a r J D3 S /\ S'' = S' := by
      have hla := h2.jr.lt
      refine ⟨S', ⟨h2.jr.only j3 h2.na, j2, fun hk => ?_, fun k hk => ?_, h2.only.trans j3 (fun i hi hs => ?_)⟩, rfl⟩
      ·rcases j1 a hk with h1 | h1
       ·exact h2.na h1
       ·omega
      ·rcases j1 k hk with h1 | h1
       ·exact h2.own k h1
       ·exact .inr (Nat.le_trans h2.only.size h1)
      ·rcases h2.own i hs with h1 | h1
       ·exact .inl h1
       ·omega
     refine ⟨he, ⟨S'', hq.1, fun hk => ?_⟩, ?_⟩
     ·rw [hq.2] at hk
      rcases j1 g hk with h1 | h1
      ·exact HGS.out h1
      ·omega
     ·rw [j3.block g hgW HGS.out, hW.block g hgl]; exact HXH.out
    obtain ⟨x0, x5, y0, y1, y2, y3⟩ := HKX.out X HXH.out HRX.out.jr
    go_wp2_with fail
    go_region_held3 (fun W => W.cell? ⟨a, 0, none⟩ = some (.pointer (some ⟨r, 0, none⟩)) /\ W.cell? ⟨a, 5, none⟩ = some (.int .i64 (J.side : Int)) /\ W.cell? ⟨g, 0, none⟩ = some (.int .u64 (E : Int)) /\ W.cell? ⟨g, 1, none⟩ = some (.int .u64 (J.next : Int)) /\ W.cell? ⟨g, 2, none⟩ = some (.int .i64 (J.log : Int)) /\ W.cell? ⟨g, 3, none⟩ = some (.int .i64 (q : Int)))
     (first | exact ⟨x0, x5, y0, y1, y2, y3⟩ | assumption)
     (first
      | (go_at_call 136; refine (CT.out _).mono ?_; rintro e w5 ⟨rfl, hb5'⟩; have hb5 : Below X.heap.size X w5 := Fr.below_predrew hb5'; have hh5 := HKX.out w5 (by rw [hb5.block g hgl]; exact HXH.out) (HRX.out.jr.below hb5))
      | (go_at_call 29; (with_reducible refine (CW3.out _ hb5).mono ?_); rintro e w6 ⟨rfl, ⟨S6, hr6, hg6⟩, hx6⟩; have hh6 := HKX.out w6 hx6 hr6.jr))
    have HR6 := Lib.hid hr6; have HG6 := Lib.hid hg6; have HX6 := Lib.hid hx6
    have c0 := hr6.jr.c0
    clear hr6 hg6 hx6 hh6 hh5 hb5 hb5' CW3 CT x0 x5 y0 y1 y2 y3 HKX HRX HXH w1s
    by_cases he3 : e3 = 0
    ·have b3 : (e3 != 0) = false := by simp [he3]
     have CF : Hid (Calls Tryz.prog 137 #[.pointer (some ⟨r, 0, none⟩)] w6 fun e w' => e = .returned (.int .i64 e4) /\ (∃ S', RJ w w' S' a r J D4 S) /\ w'.heap[g]? = some (.cells #[.int .u64 (E : Int), .int .u64 (J.next : Int), .int .i64 (J.log : Int), .int .i64 (q : Int)] 134 (0, 0))) := by
      have := rflush_any (by omega) HR6.out.dev
      rw [H4.out] at this
      refine this.mono fun e w' ⟨he, hs, ho⟩ => ⟨he, HR6.out.leaves (.mk hs ho), ?_⟩
      rw [ho.block g (Array.getElem?_eq_some_iff.1 HX6.out).1 HG6.out]; exact HX6.out
     go_wp2_with fail
     refine CF.out.mono ?_
     rintro e w7 ⟨rfl, ⟨S7, hr7⟩, hx7⟩
     have HR7 := Lib.hid hr7
     have hj7 := hr7.jr
     have y0 : w7.cell? ⟨g, 0, none⟩ = some (.int .u64 (E : Int)) := by rw [cell_at hx7]; rfl
     have y1 : w7.cell? ⟨g, 1, none⟩ = some (.int .u64 (J.next : Int)) := by rw [cell_at hx7]; rfl
     have y2 : w7.cell? ⟨g, 2, none⟩ = some (.int .i64 (J.log : Int)) := by rw [cell_at hx7]; rfl
     have y3 : w7.cell? ⟨g, 3, none⟩ = some (.int .i64 (q : Int)) := by rw [cell_at hx7]; rfl
     have a1 := hj7.c1; have a2 := hj7.c2; have a3 := hj7.c3; have a4 := hj7.c4; have a5 := hj7.c5; have a7 := hj7.c7
     have f1 := hj7.f 1; have f2 := hj7.f 2; have f3 := hj7.f 3; have f4 := hj7.f 4; have f5 := hj7.f 5; have f7 := hj7.f 7
     clear hr7 hj7 hx7 CF c0 HR6 HX6
     by_cases he4 : e4 = 0
     ·have b4 : (e4 != 0) = false := by simp [he4]
      have HC : Hid (ckpR J (e1, D1) (e2, D2) (e3, D3) (e4, D4) = (0, D4, J.next')) := by
       show ckpR _ _ _ _ _ = _; subst he1 he2 he3 he4; rfl
      have HF : Hid (RJ w ((((((w7.setCell ⟨a, 1, none⟩ (.int .u64 (E : Int))).setCell ⟨a, 2, none⟩ (.int .u64 (J.next : Int))).setCell ⟨a, 3, none⟩ (.int .i64 (J.log : Int))).setCell ⟨a, 4, none⟩ (.int .i64 (q : Int))).setCell ⟨a, 5, none⟩ (.int .i64 (sd : Int))).setCell ⟨a, 7, none⟩ (.int .i64 0)) S7 a r J.next' D4 S) := by
       have e0 : J.next' = ⟨E, J.next, J.log, q, sd, J.next, 0⟩ := by
        unfold JS.next'
        rw [HE.out, HSD.out, HQ0.out, Nat.add_sub_cancel_left]
       rw [e0]
       have k1 := HR7.out.put (J' := { J with e := E }) (i := 1) (v := .int .u64 (E : Int)) (by simp [JCells])
       have k2 := k1.put (J' := { J with e := E, s := J.next }) (i := 2) (v := .int .u64 (J.next : Int)) (by simp [JCells])
       have k3 := k2.put (J' := { J with e := E, s := J.next }) (i := 3) (v := .int .i64 (J.log : Int)) (by simp [JCells])
       have k4 := k3.put (J' := { J with e := E, s := J.next, p := q }) (i := 4) (v := .int .i64 (q : Int)) (by simp [JCells])
       have k5 := k4.put (J' := { J with e := E, s := J.next, p := q, side := sd }) (i := 5) (v := .int .i64 (sd : Int)) (by simp [JCells])
       exact k5.put (J' := ⟨E, J.next, J.log, q, sd, J.next, 0⟩) (i := 7) (v := .int .i64 0) (by simp [JCells])
      have hsd1 := HSD1.out
      go_wp2
      go_ret
      exact ⟨by rw [HC.out]; rfl, by rw [HC.out]; exact HF.out.ends⟩
     ·have b4 : (e4 != 0) = true := by simp [he4]
      have HC : Hid (ckpR J (e1, D1) (e2, D2) (e3, D3) (e4, D4) = (e4, D4, J)) := by
       subst he1 he2 he3; show ckpR _ _ _ _ _ = _; unfold ckpR; simp [he4]
      clear he4
      go_wp2
      go_ret
      exact ⟨by rw [HC.out]; rfl, by rw [HC.out]; exact HR7.out.ends⟩
    ·have b3 : (e3 != 0) = true := by simp [he3]
     have HC : Hid (ckpR J (e1, D1) (e2, D2) (e3, D3) (e4, D4) = (e3, D3, J)) := by
      subst he1 he2; show ckpR _ _ _ _ _ = _; unfold ckpR; simp [he3]
     clear he3
     go_wp2
     go_ret
     exact ⟨by rw [HC.out]; rfl, by rw [HC.out]; exact HR6.out.ends⟩
  ·have b2 : (e2 != 0) = true := by simp [he2]
   have HC : Hid (ckpR J (e1, D1) (e2, D2) (e3, D3) (e4, D4) = (e2, D2, J)) := by
    subst he1; show ckpR _ _ _ _ _ = _; unfold ckpR; simp [he2]
   clear he2
   go_wp2
   go_ret
   exact ⟨by rw [HC.out]; rfl, by rw [HC.out]; exact HR4.out.ends⟩
 ·have b1 : (e1 != 0) = true := by simp [he1]
  have HC : Hid (ckpR J (e1, D1) (e2, D2) (e3, D3) (e4, D4) = (e1, D1, J)) := by
   show ckpR _ _ _ _ _ = _; unfold ckpR; simp [he1]
  clear he1
  go_wp2
  go_ret
  exact ⟨by rw [HC.out]; rfl, by rw [HC.out]; exact HR3.out.ends⟩
end
end Go.Proofs.YthambopnmhkeeaaGreat
/- The document's own journal: what log answers and leaves behind: a frame is laid behind those that are there. -/
set_option maxRecDepth 100000
namespace Go.Proofs.YthambopnmhkeeaaGreat
open Go.RowKit
open Fr (StrsAt)
section
variable {S : Nat -> Prop} {w w' w1 : World} {a r : Nat} {J : JS} {D D1 : DevS} {top : ByteArray} {ds : List ByteArray}
theorem RJ.leavesB {w0 : World} {T : Nat -> Prop} (h : RJ w0 w S a r J D T) (hl : RLeaves S w w1 r D1) (g : Nat) (hg : g < w.heap.size) (hs : ¬ S g) : ∃ S', RJ w0 w1 S' a r J D1 T /\ ¬ S' g /\ w1.heap[g]? = w.heap[g]? /\ g < w1.heap.size := by
 obtain ⟨S', hS', hst, ho⟩ := hl
 have hla := h.jr.lt
 refine ⟨S', ⟨h.jr.only ho h.na, hst, fun hk => ?_, fun k hk => ?_, h.only.trans ho (fun i hi hs => ?_)⟩, fun hk => ?_, ho.block g hg hs, Nat.lt_of_lt_of_le hg ho.size⟩
 ·rcases hS' a hk with h1 | h1
  ·exact h.na h1
  ·omega
 ·rcases hS' k hk with h1 | h1
  ·exact h.own k h1
  ·exact .inr (Nat.le_trans h.only.size h1)
 ·rcases h.own i hs with h1 | h1
  ·exact .inl h1
  ·omega
 ·rcases hS' g hk with h1 | h1
  ·exact hs h1
  ·omega
theorem wrs_snoc_err (D : DevS) (l : List (Int × ByteArray)) (x : Int × ByteArray) (m : List (Int × ByteArray)) (h : (D.wrs l).1 = 0) (he : ((D.wrs l).2.wr x.1 x.2).1 ≠ 0) : D.wrs (l ++ [x] ++ m) = (D.wrs l).2.wr x.1 x.2 := by
 rw [DevS.wrs_err D (l ++ [x]) m (by rw [DevS.wrs_snoc D l x h]; exact he), DevS.wrs_snoc D l x h]
theorem addF_data_err (J : JS) (D : DevS) (top : ByteArray) (ds : List ByteArray) (k : Nat) (hk : k < ds.length) (h0 : (D.wrs (J.dataK ds k)).1 = 0) (he : ((D.wrs (J.dataK ds k)).2.wr ((J.pos (k + 1) : Nat) : Int) (ds.getD k ByteArray.empty)).1 ≠ 0) :
  (J.addF D top ds).1 = ((D.wrs (J.dataK ds k)).2.wr ((J.pos (k + 1) : Nat) : Int) (ds.getD k ByteArray.empty)).1 /\ (J.addF D top ds).2.1 = ((D.wrs (J.dataK ds k)).2.wr ((J.pos (k + 1) : Nat) : Int) (ds.getD k ByteArray.empty)).2 := by
 have hd : ∃ m, J.dataW ds = J.dataK ds k ++ [(((J.pos (k + 1) : Nat) : Int), ds.getD k ByteArray.empty)] ++ m := by
  rw [<- dataK_succ]
  obtain ⟨d, hd⟩ : ∃ d, ds.length = k + 1 + d := ⟨ds.length - (k + 1), by omega⟩
  refine ⟨((List.range d).map fun i => (((J.pos (k + 1 + i + 1) : Nat) : Int), ds.getD (k + 1 + i) ByteArray.empty)) ++ [(((J.pos (ds.length + 1) : Nat) : Int), noughts)], ?_⟩
  rw [dataW_eq, <- List.append_assoc]
  congr 1
  unfold JS.dataK
  rw [hd, List.range_add, List.map_append, List.map_map]
  rfl
 obtain ⟨m, hm⟩ := hd
 have hw := wrs_snoc_err D (J.dataK ds k) (((J.pos (k + 1) : Nat) : Int), ds.getD k ByteArray.empty) m h0 he
 simp only at hw
 have hs : D.stl (J.dataW ds) = (D.wrs (J.dataK ds k)).2.wr ((J.pos (k + 1) : Nat) : Int) (ds.getD k ByteArray.empty) := by
  unfold DevS.stl
  rw [hm, hw, if_pos he]
 unfold JS.addF
 simp only [hs]
 rw [if_pos he]
 exact ⟨rfl, rfl⟩
def logR (R1 R2 R3 R4 : Int × DevS) : Int × DevS := if R1.1 ≠ 0 then R1 else if R2.1 ≠ 0 then R2 else if R3.1 ≠ 0 then R3 else R4
theorem addF_end (J : JS) (D : DevS) (top : ByteArray) (ds : List ByteArray) (h0 : (D.wrs (J.dataK ds ds.length)).1 = 0) {R1 R2 R3 R4 : Int × DevS} (h1 : (D.wrs (J.dataK ds ds.length)).2.wr ((J.pos (ds.length + 1) : Nat) : Int) noughts = R1) (h2 : R1.2.fl = R2) (h3 : R2.2.wr ((J.pos 0 : Nat) : Int) top = R3) (h4 : R3.2.fl = R4) :
  (J.addF D top ds).1 = (logR R1 R2 R3 R4).1 /\ (J.addF D top ds).2.1 = (logR R1 R2 R3 R4).2 := by
 have hw : D.wrs (J.dataW ds) = R1 := by rw [dataW_eq, DevS.wrs_snoc D _ _ h0]; exact h1
 have hs : D.stl (J.dataW ds) = if R1.1 ≠ 0 then R1 else R2 := by unfold DevS.stl; rw [hw, h2]
 unfold JS.addF logR
 simp only [hs]
 by_cases e1 : R1.1 ≠ 0
 ·simp only [if_pos e1]; first | exact ⟨rfl, rfl⟩ | exact ⟨trivial, trivial⟩
 ·simp only [if_neg e1]
  by_cases e2 : R2.1 ≠ 0
  ·simp only [if_pos e2]; first | exact ⟨rfl, rfl⟩ | exact ⟨trivial, trivial⟩
  ·simp only [if_neg e2, stl1, h3, h4]
   by_cases e3 : R3.1 ≠ 0
   ·simp only [if_pos e3]; first | exact ⟨rfl, rfl⟩ | exact ⟨trivial, trivial⟩
   ·simp only [if_neg e3]
    by_cases e4 : R4.1 ≠ 0
    ·simp only [if_pos e4]; first | exact ⟨rfl, rfl⟩ | exact ⟨trivial, trivial⟩
    ·simp only [if_neg e4]
     have e5 := Classical.not_not.1 e4
     refine ⟨?_, ?_⟩ <;> first | exact e5.symm | rfl | trivial
set_option maxHeartbeats 4000000 in
theorem vlog_any (b off c : Nat) (hj : Jr 136 w a r J) (hd : RStands S w r D) (ha : ¬ S a) (ok : J.Ok D.disk.length) (hp : D.pend.length <= 800000) (hl : ds.length <= 48) (hf : J.full + ds.length + 1 <= J.log)
  (hb : b < w.heap.size) (hc : StrsAt w b off (top :: ds)) (hsb : ¬ S b) :
  Calls Tryz.prog 146 #[.pointer (some ⟨a, 0, none⟩), .slice (some ⟨b, off, none⟩) (ds.length + 1) c] w fun e w' => e = .returned (.int .i64 (J.addF D top ds).1) /\ RJLeaves S w w' a r (J.addF D top ds).2.1 J := by
 have hn := hd.ok.few
 have hll := ok.l1
 have HJ0 := Lib.hid (RJ.start hj hd ha)
 have hal := hj.lt
 have HC0 : Hid (∀ W : World, W.heap[b]? = w.heap[b]? -> W.cell? ⟨b, off, none⟩ = some (.string top)) := fun W hW => (World.cell?_of_block (w := w) (a := ⟨b, off, none⟩) hW).trans (hc 0 (by simp))
 have HCk : Hid (∀ W : World, W.heap[b]? = w.heap[b]? -> ∀ i, 1 <= i -> i <= ds.length -> W.cell? ⟨b, off + i, none⟩ = some (.string (ds.getD (i - 1) ByteArray.empty))) := fun W hW i h1 h2 => by
  refine (World.cell?_of_block (w := w) (a := ⟨b, off + i, none⟩) hW).trans ?_
  have := hc i (by simp; omega)
  rw [this]
  obtain ⟨k, rfl⟩ : ∃ k, i = k + 1 := ⟨i - 1, by omega⟩
  simp [show k < ds.length by omega]
 have CP : Hid (∀ W, Jr 136 W a r J -> ∀ i : Nat, i <= 60 -> Calls Tryz.prog 181 #[.pointer (some ⟨a, 0, none⟩), .int .i64 ((J.full : Int) + (i : Int))] W fun e w' => e = .returned (.int .i64 ((J.pos i : Nat) : Int)) /\ w' = W.drew) := fun W hW i hi => by
  have := vplace_any (J.full + i) hW ok hn (by omega)
  rw [show ((J.full + i : Nat) : Int) = (J.full : Int) + (i : Int) by omega] at this
  rw [show J.pos i = 2 + (J.p + (J.full + i)) % J.log by unfold JS.pos; rw [Nat.add_assoc]]
  exact this
 have CP0 : Hid (∀ W, Jr 136 W a r J -> Calls Tryz.prog 181 #[.pointer (some ⟨a, 0, none⟩), .int .i64 (J.full : Int)] W fun e w' => e = .returned (.int .i64 ((J.pos 0 : Nat) : Int)) /\ w' = W.drew) := fun W hW => vplace_any J.full hW ok hn (by omega)
 have CN := Lib.hid rnoughts_any
 have HERR := Lib.hid fun k hk h0 he => addF_data_err J D top ds k hk h0 he
 have HEND := Lib.hid fun h0 R1 R2 R3 R4 h1 h2 h3 h4 => addF_end J D top ds h0 (R1 := R1) (R2 := R2) (R3 := R3) (R4 := R4) h1 h2 h3 h4
 have HSUC := Lib.hid (dataK_succ J ds)
 have HLEN := Lib.hid (dataK_len J ds)
 have HOK := Lib.hid ok
 have HSB := Lib.hid hsb
 clear hj hd ha ok hc hsb
 generalize J.addF D top ds = AF at *
 obtain ⟨n, hnn⟩ : ∃ n, ds.length = n := ⟨_, rfl⟩
 rw [hnn] at hl hf HCk HERR HEND ⊢
 clear hnn
 go_enter Tryz.func146, Tryz.ntmps146
 go_wp2_with fail
 go_loopw [5] (fun t wr => ∃ (i : Nat) (S' : Nat -> Prop), 1 <= i /\ i <= n + 1 /\ t = .int .i64 (i : Int) /\ Hid ((D.wrs (J.dataK ds (i - 1))).1 = 0) /\ Hid (RJ w wr S' a r J (D.wrs (J.dataK ds (i - 1))).2 S) /\ Hid (¬ S' b) /\ Hid (wr.heap[b]? = w.heap[b]?) /\ b < wr.heap.size) (fun t _ => n + 1 - (intOf t).toNat)
 case atStart => exact ⟨1, S, Nat.le_refl _, by omega, rfl, rfl, HJ0, HSB, rfl, hb⟩
 case round =>
  obtain ⟨i, S1, hi1, hi2, rfl, HZ, HR, HB1, HH, hbl⟩ := hrel
  have hpe : (D.wrs (J.dataK ds (i - 1))).2.pend.length <= 800060 := by
   have := D.wrs_len (J.dataK ds (i - 1))
   rw [HLEN.out] at this; omega
  by_cases hlt : i < n + 1
  ·have c0 := HR.out.jr.c0; have c7 := HR.out.jr.c7
   have y0 := HCk.out wr HH.out i hi1 (by omega)
   have HS2 := HSUC.out (i - 1)
   rw [show i - 1 + 1 = i by omega] at HS2
   have HE := HERR.out (i - 1) (by omega)
   rw [show i - 1 + 1 = i by omega] at HE
   have HS3 := Lib.hid HS2; have HE3 := Lib.hid HE
   clear HS2 HE
   have CPi := Lib.hid fun W hW => CP.out W hW i (by omega)
   have ws : IntKind.i64.wrap ((J.full : Int) + (i : Int)) = (J.full : Int) + (i : Int) := IntWalk.i64_in _ (by omega)
   generalize ds.getD (i - 1) ByteArray.empty = pt at *
   generalize J.pos i = ps at *
   have HWS := Lib.hid fun h0 => DevS.wrs_snoc D (J.dataK ds (i - 1)) ((ps : Int), pt) h0
   rw [<- HS3.out] at HWS
   simp only at HWS HE3
   generalize D.wrs (J.dataK ds (i - 1)) = Q at *
   obtain ⟨Q1, Q2⟩ := Q
   simp only at HZ HR hpe HWS HE3
   obtain ⟨R, hR⟩ : ∃ R, Q2.wr (ps : Int) pt = R := ⟨_, rfl⟩
   rw [hR] at HWS HE3
   have CW : Hid (∀ W, Below wr.heap.size wr W -> Calls Tryz.prog 29 #[.pointer (some ⟨r, 0, none⟩), .int .i64 (ps : Int), .string pt] W fun e w' => e = .returned (.int .i64 R.1) /\ ∃ S', RJ w w' S' a r J R.2 S /\ ¬ S' b /\ w'.heap[b]? = w.heap[b]? /\ b < w'.heap.size) := fun W hW => by
    have h2 := HR.out.below hW
    have hgW : b < W.heap.size := Nat.lt_of_lt_of_le hbl hW.size
    have := rwrite_any (ps : Int) pt (by omega) h2.dev
    rw [hR] at this
    refine this.mono fun e w' ⟨he, hl⟩ => ?_
    obtain ⟨S', j1, j2, j3, j4⟩ := h2.leavesB hl b hgW HB1.out
    exact ⟨he, S', j1, j2, by rw [j3, hW.block b hbl]; exact HH.out, j4⟩
   have HK : Hid (∀ W : World, Jr 136 W a r J -> W.heap[b]? = w.heap[b]? -> W.cell? ⟨a, 0, none⟩ = some (.pointer (some ⟨r, 0, none⟩)) /\ W.cell? ⟨a, 7, none⟩ = some (.int .i64 (J.full : Int)) /\ W.cell? ⟨b, off + i, none⟩ = some (.string pt)) := fun W h1 h2 =>
    ⟨h1.c0, h1.c7, (World.cell?_of_block (w := wr) (a := ⟨b, off + i, none⟩) (h2.trans HH.out.symm)).trans y0⟩
   have HJr := Lib.hid HR.out.jr
   clear hR
   obtain ⟨er, DR⟩ := R
   simp only at CW HWS HE3
   go_wp2_with fail
   go_region_held3 (fun W => W.cell? ⟨a, 0, none⟩ = some (.pointer (some ⟨r, 0, none⟩)) /\ W.cell? ⟨a, 7, none⟩ = some (.int .i64 (J.full : Int)) /\ W.cell? ⟨b, off + i, none⟩ = some (.string pt))
    (first | exact ⟨c0, c7, y0⟩ | assumption)
    (first
     | (go_at_call 181; (with_reducible refine (CPi.out _ (HJr.out.below ((Below.refl _ _).drew))).mono ?_); rintro e w1 ⟨rfl, rfl⟩)
     | (go_at_call 29; (with_reducible refine (CW.out _ ((Below.refl _ _).drew.drew)).mono ?_); rintro e w6 ⟨rfl, S6, hr6, hg6, hh6, hgl6⟩; have hk6 := HK.out w6 hr6.jr hh6))
   have HR6 := Lib.hid hr6; have HG6 := Lib.hid hg6; have HH6 := Lib.hid hh6
   clear hr6 hg6 hh6 hk6 CW HK y0 c0 c7 HR HB1 HH ws
   by_cases her : er = 0
   ·have her' : (er != 0) = false := by simp [her]
    have HN : Hid (D.wrs (J.dataK ds i) = (er, DR)) := HWS.out HZ.out
    clear HE3 HWS
    go_wp2
    go_roundw
    case rel => exact ⟨i + 1, S6, by omega, by omega, by go_num, by show _ = _; rw [Nat.add_sub_cancel, HN.out]; exact her, by show RJ _ _ _ _ _ _ _ _; rw [Nat.add_sub_cancel, HN.out]; exact HR6.out, HG6, HH6, hgl6⟩
    case measure => simp [intOf]; omega
   ·have her' : (er != 0) = true := by simp [her]
    have HF : Hid (AF.1 = er /\ AF.2.1 = DR) := HE3.out HZ.out her
    clear HE3 HWS
    go_wp2
    go_ret
    exact ⟨by rw [HF.out.1]; rfl, by rw [HF.out.2]; exact HR6.out.ends⟩
  ·obtain rfl : i = n + 1 := by omega
   rw [Nat.add_sub_cancel] at HZ HR hpe
   have HE0 := Lib.hid (HEND.out HZ.out)
   clear HEND HERR HSUC HLEN HCk
   generalize D.wrs (J.dataK ds n) = Q at *
   obtain ⟨Q1, Q2⟩ := Q
   simp only at HZ HR hpe HE0
   obtain ⟨R1, h1⟩ : ∃ R, Q2.wr ((J.pos (n + 1) : Nat) : Int) noughts = R := ⟨_, rfl⟩
   obtain ⟨R2, h2⟩ : ∃ R, R1.2.fl = R := ⟨_, rfl⟩
   obtain ⟨R3, h3⟩ : ∃ R, R2.2.wr ((J.pos 0 : Nat) : Int) top = R := ⟨_, rfl⟩
   obtain ⟨R4, h4⟩ : ∃ R, R3.2.fl = R := ⟨_, rfl⟩
   have HF := Lib.hid (HE0.out R1 R2 R3 R4 h1 h2 h3 h4)
   have p1 : R1.2.pend.length <= 800061 := by rw [<- h1]; have := Q2.wr_len ((J.pos (n + 1) : Nat) : Int) noughts; omega
   have p2 : R2.2.pend.length <= 800061 := by rw [<- h2]; have := R1.2.fl_len; omega
   have p3 : R3.2.pend.length <= 800062 := by rw [<- h3]; have := R2.2.wr_len ((J.pos 0 : Nat) : Int) top; omega
   have H1 := Lib.hid h1; have H2 := Lib.hid h2; have H3 := Lib.hid h3; have H4 := Lib.hid h4
   clear h1 h2 h3 h4 HE0
   obtain ⟨e1, D1⟩ := R1
   obtain ⟨e2, D2⟩ := R2
   obtain ⟨e3, D3⟩ := R3
   obtain ⟨e4, D4⟩ := R4
   simp only at p1 p2 p3 H1 H2 H3 H4
   have CPn := Lib.hid fun W hW => CP.out W hW (n + 1) (by omega)
   rw [show ((n + 1 : Nat) : Int) = (n : Int) + 1 by omega] at CPn
   have ws : IntKind.i64.wrap ((J.full : Int) + ((n : Int) + 1)) = (J.full : Int) + ((n : Int) + 1) := IntWalk.i64_in _ (by omega)
   generalize J.pos (n + 1) = ps at *
   generalize J.pos 0 = p0 at *
   obtain ⟨NT, hNT⟩ : ∃ T, noughts = T := ⟨_, rfl⟩
   rw [hNT] at H1 CN
   clear hNT CP
   have c0 := HR.out.jr.c0; have c7 := HR.out.jr.c7
   have hal1 := HR.out.jr.lt
   have HJr := Lib.hid HR.out.jr
   have CW1 : Hid (∀ W, Below wr.heap.size wr W -> Calls Tryz.prog 29 #[.pointer (some ⟨r, 0, none⟩), .int .i64 (ps : Int), .string NT] W fun e w' => e = .returned (.int .i64 e1) /\ ∃ S', RJ w w' S' a r J D1 S /\ ¬ S' b /\ w'.heap[b]? = w.heap[b]? /\ b < w'.heap.size) := fun W hW => by
    have h2 := HR.out.below hW
    have hgW : b < W.heap.size := Nat.lt_of_lt_of_le hbl hW.size
    have := rwrite_any (ps : Int) NT (by omega) h2.dev
    rw [H1.out] at this
    refine this.mono fun e w' ⟨he, hl⟩ => ?_
    obtain ⟨S', j1, j2, j3, j4⟩ := h2.leavesB hl b hgW HB1.out
    exact ⟨he, S', j1, j2, by rw [j3, hW.block b hbl]; exact HH.out, j4⟩
   go_wp2_with fail
   go_region_held3 (fun W => W.cell? ⟨a, 0, none⟩ = some (.pointer (some ⟨r, 0, none⟩)) /\ W.cell? ⟨a, 7, none⟩ = some (.int .i64 (J.full : Int)))
    (first | exact ⟨c0, c7⟩ | assumption)
    (first
     | (go_at_call 181; (with_reducible refine (CPn.out _ (HJr.out.below ((Below.refl _ _).drew))).mono ?_); rintro e w1 ⟨rfl, rfl⟩)
     | (go_at_call 68; refine (CN.out _).mono ?_; rintro e w2 ⟨rfl, hb2'⟩; have hb2 : Below wr.heap.size wr w2 := Fr.below_predrew (Fr.below_predrew hb2'); have hh2 : w2.cell? ⟨a, 0, none⟩ = some (.pointer (some ⟨r, 0, none⟩)) /\ w2.cell? ⟨a, 7, none⟩ = some (.int .i64 (J.full : Int)) := ⟨(hb2.cell (p := ⟨a, 0, none⟩) hal1).trans c0, (hb2.cell (p := ⟨a, 7, none⟩) hal1).trans c7⟩)
     | (go_at_call 29; (with_reducible refine (CW1.out _ hb2).mono ?_); rintro e w3 ⟨rfl, S3, hr3, hg3, hx3, hl3⟩; have hh3 : w3.cell? ⟨a, 0, none⟩ = some (.pointer (some ⟨r, 0, none⟩)) /\ w3.cell? ⟨a, 7, none⟩ = some (.int .i64 (J.full : Int)) := ⟨hr3.jr.c0, hr3.jr.c7⟩))
   have HR3 := Lib.hid hr3; have HG3 := Lib.hid hg3; have HX3 := Lib.hid hx3
   clear hr3 hg3 hx3 hh3 hh2 hb2' hb2 CPn CW1 CN c0 c7 ws HR HB1 HH HJr
   by_cases he1 : e1 = 0
   ·have b1 : (e1 != 0) = false := by simp [he1]
    have c0 := HR3.out.jr.c0
    have CF : Hid (Calls Tryz.prog 137 #[.pointer (some ⟨r, 0, none⟩)] w3 fun e w' => e = .returned (.int .i64 e2) /\ ∃ S', RJ w w' S' a r J D2 S /\ ¬ S' b /\ w'.heap[b]? = w.heap[b]? /\ b < w'.heap.size) := by
     have := rflush_any (by omega) HR3.out.dev
     rw [H2.out] at this
     refine this.mono fun e w' ⟨he, hs, ho⟩ => ⟨he, ?_⟩
     obtain ⟨S', j1, j2, j3, j4⟩ := HR3.out.leavesB (.mk hs ho) b hl3 HG3.out
     exact ⟨S', j1, j2, by rw [j3]; exact HX3.out, j4⟩
    go_wp2_with fail
    refine CF.out.mono ?_
    rintro e w4 ⟨rfl, S4, hr4, hg4, hx4, hl4⟩
    have HR4 := Lib.hid hr4; have HG4 := Lib.hid hg4; have HX4 := Lib.hid hx4
    clear hr4 hg4 hx4 CF c0 HR3 HG3 HX3
    by_cases he2 : e2 = 0
    ·have b2 : (e2 != 0) = false := by simp [he2]
     have c0 := HR4.out.jr.c0; have c7 := HR4.out.jr.c7
     have y0 := HC0.out w4 HX4.out
     have HJ4 := Lib.hid HR4.out.jr
     have CW3 : Hid (∀ W, Below w4.heap.size w4 W -> Calls Tryz.prog 29 #[.pointer (some ⟨r, 0, none⟩), .int .i64 (p0 : Int), .string top] W fun e w' => e = .returned (.int .i64 e3) /\ ∃ S', RJ w w' S' a r J D3 S /\ ¬ S' b /\ w'.heap[b]? = w.heap[b]? /\ b < w'.heap.size) := fun W hW => by
      have h2 := HR4.out.below hW
      have hgW : b < W.heap.size := Nat.lt_of_lt_of_le hl4 hW.size
      have := rwrite_any (p0 : Int) top (by omega) h2.dev
      rw [H3.out] at this
      refine this.mono fun e w' ⟨he, hl⟩ => ?_
      obtain ⟨S', j1, j2, j3, j4⟩ := h2.leavesB hl b hgW HG4.out
      exact ⟨he, S', j1, j2, by rw [j3, hW.block b hl4]; exact HX4.out, j4⟩
     have HK : Hid (∀ W : World, Jr 136 W a r J -> W.heap[b]? = w.heap[b]? -> W.cell? ⟨a, 0, none⟩ = some (.pointer (some ⟨r, 0, none⟩)) /\ W.cell? ⟨a, 7, none⟩ = some (.int .i64 (J.full : Int)) /\ W.cell? ⟨b, off, none⟩ = some (.string top)) := fun W h1 h2 => ⟨h1.c0, h1.c7, HC0.out W h2⟩
     go_wp2_with fail
     go_region_held3 (fun W => W.cell? ⟨a, 0, none⟩ = some (.pointer (some ⟨r, 0, none⟩)) /\ W.cell? ⟨a, 7, none⟩ = some (.int .i64 (J.full : Int)) /\ W.cell? ⟨b, off, none⟩ = some (.string top))
      (first | exact ⟨c0, c7, y0⟩ | assumption)
      (first
       | (go_at_call 181; (with_reducible refine (CP0.out _ (HJ4.out.below ((Below.refl _ _).drew))).mono ?_); rintro e w1 ⟨rfl, rfl⟩)
       | (go_at_call 29; (with_reducible refine (CW3.out _ ((Below.refl _ _).drew.drew)).mono ?_); rintro e w5 ⟨rfl, S5, hr5, hg5, hx5, hl5⟩; have hk5 := HK.out w5 hr5.jr hx5))
     have HR5 := Lib.hid hr5; have HG5 := Lib.hid hg5; have HX5 := Lib.hid hx5
     clear hr5 hg5 hx5 hk5 CW3 HK y0 c0 c7 HR4 HG4 HX4 HJ4
     by_cases he3 : e3 = 0
     ·have b3 : (e3 != 0) = false := by simp [he3]
      have c0 := HR5.out.jr.c0
      have CF : Hid (Calls Tryz.prog 137 #[.pointer (some ⟨r, 0, none⟩)] w5 fun e w' => e = .returned (.int .i64 e4) /\ ∃ S', RJ w w' S' a r J D4 S) := HR5.out.flush (by omega) H4.out
      have HL : Hid (logR (e1, D1) (e2, D2) (e3, D3) (e4, D4) = (e4, D4)) := by
       show logR _ _ _ _ = _; unfold logR; simp [he1, he2, he3]
      rw [HL.out] at HF
      go_wp2_with fail
      refine CF.out.mono ?_
      rintro e w6 ⟨rfl, S6, hr6⟩
      have HR6 := Lib.hid hr6
      clear hr6 CF c0
      go_wp2
      go_ret
      exact ⟨by rw [HF.out.1]; rfl, by rw [HF.out.2]; exact HR6.out.ends⟩
     ·have b3 : (e3 != 0) = true := by simp [he3]
      have HL : Hid (logR (e1, D1) (e2, D2) (e3, D3) (e4, D4) = (e3, D3)) := by
       show logR _ _ _ _ = _; unfold logR; simp [he1, he2, he3]
      rw [HL.out] at HF
      go_wp2
      go_ret
      exact ⟨by rw [HF.out.1]; rfl, by rw [HF.out.2]; exact HR5.out.ends⟩
    ·have b2 : (e2 != 0) = true := by simp [he2]
     have HL : Hid (logR (e1, D1) (e2, D2) (e3, D3) (e4, D4) = (e2, D2)) := by
      show logR _ _ _ _ = _; unfold logR; simp [he1, he2]
     rw [HL.out] at HF
     go_wp2
     go_ret
     exact ⟨by rw [HF.out.1]; rfl, by rw [HF.out.2]; exact HR4.out.ends⟩
   ·have b1 : (e1 != 0) = true := by simp [he1]
    have HL : Hid (logR (e1, D1) (e2, D2) (e3, D3) (e4, D4) = (e1, D1)) := by
     show logR _ _ _ _ = _; unfold logR; simp [he1]
    rw [HL.out] at HF
    go_wp2
    go_ret
    exact ⟨by rw [HF.out.1]; rfl, by rw [HF.out.2]; exact HR3.out.ends⟩
end
end Go.Proofs.YthambopnmhkeeaaGreat
/- The document's own Commit: what it answers and leaves behind, for every journal over every device: the same. -/
set_option maxRecDepth 100000
namespace Go.Proofs.YthambopnmhkeeaaGreat
open Go.RowKit
open Fr (SlW SlS WritesAt StrsAt OwnS)
section
variable {S S1 T : Nat -> Prop} {w0 w w1 w2 w' : World} {a r : Nat} {J J1 J2 : JS} {D D1 D2 : DevS} {v : Value} {L : List (Int × ByteArray)}
theorem RJ.all (h : RJ w0 w S a r J D T) (hl : RJLeaves S w w1 a r D1 J1) : ∃ S', RJ w0 w1 S' a r J1 D1 T /\ ∀ g, g < w.heap.size -> ¬ S g -> g ≠ a -> ¬ S' g /\ w1.heap[g]? = w.heap[g]? /\ g < w1.heap.size := by
 obtain ⟨S', hS', hst, hjr, ho⟩ := hl
 have hla := h.jr.lt
 refine ⟨S', ⟨hjr, hst, fun hk => ?_, fun k hk => ?_, h.only.trans ho (fun i hi hs => ?_)⟩, fun g hg hs hga => ⟨fun hk => ?_, ho.block g hg (fun hh => ?_), Nat.lt_of_lt_of_le hg ho.size⟩⟩
 ·rcases hS' a hk with h1 | h1
  ·exact h.na h1
  ·omega
 ·rcases hS' k hk with h1 | h1
  ·exact h.own k h1
  ·exact .inr (Nat.le_trans h.only.size h1)
 ·rcases hs with hs | hs
  ·rcases h.own i hs with h1 | h1
   ·exact .inl h1
   ·omega
  ·exact .inr hs
 ·rcases hS' g hk with h1 | h1
  ·exact hs h1
  ·omega
 ·rcases hh with h1 | h1
  ·exact hs h1
  ·exact hga h1
theorem cells_heapO {g off : Nat} {L : List (Int × ByteArray)} (h : WritesAt w g off L) (he : w'.heap[g]? = w.heap[g]?) : WritesAt w' g off L := fun j hj =>
 ⟨(World.cell?_of_block (w := w) (a := ⟨g, off + j * 2, none⟩) he).trans (h j hj).1, (World.cell?_of_block (w := w) (a := ⟨g, off + j * 2 + 1, none⟩) he).trans (h j hj).2⟩
theorem set_ne {a b i : Nat} {v : Value} (h : b ≠ a) : (w.setCell ⟨a, i, none⟩ v).heap[b]? = w.heap[b]? := by
 simp [World.setCell, Array.getElem?_modify, Ne.symm h]
theorem set_size {a : Addr} {v : Value} : (w.setCell a v).heap.size = w.heap.size := by simp [World.setCell]
variable {t : ByteArray} {ds : List ByteArray}
theorem addF_err (h : (J.addF D1 t ds).1 ≠ 0) : (J.addF D1 t ds).2.2 = J := by
 unfold JS.addF at *
 simp only at *
 split
 ·rfl
 ·rename_i h1
  rw [if_neg h1] at h
  split
  ·rfl
  ·rename_i h2; rw [if_neg h2] at h; exact absurd rfl h
theorem addF_good (h : (J.addF D1 t ds).1 = 0) : (J.addF D1 t ds).2.2 = J.grow (ds.length + 1) := by
 unfold JS.addF at *
 simp only at *
 split
 ·rename_i h1; rw [if_pos h1] at h; exact absurd h h1
 ·rename_i h1
  rw [if_neg h1] at h
  split
  ·rename_i h2; rw [if_pos h2] at h; exact absurd h h2
  ·rfl
theorem pk_code (s : Nat) (l : List (Int × ByteArray)) (h1 : 1 <= l.length) (h2 : l.length <= 48) : (Fr.pk s l).2 ≠ 6 := by
 have hc : ∀ m : List (Int × ByteArray), Fr.chkL m = 0 \/ Fr.chkL m = 2 \/ Fr.chkL m = 3 := by
  intro m
  induction m with
  | nil => exact .inl rfl
  | cons x r ih =>
   unfold Fr.chkL
   split
   ·exact ih
   ·unfold Fr.chk1
    split
    ·exact .inr (.inl rfl)
    ·split
     ·exact .inr (.inr rfl)
     ·exact .inl rfl
 unfold Fr.pk
 split
 ·show (0 : Nat) ≠ 6; omega
 ·show Fr.chk l ≠ 6
  unfold Fr.chk
  rw [if_neg (by omega)]
  rcases hc l with h | h | h <;> omega
set_option maxHeartbeats 1000000 in
theorem vcommit_many (lao : Option Addr) (n lc : Nat) (hj : Jr 136 w a r J) (hd : RStands S w r D) (h : n = 0 \/ 48 < n) (hn : n <= 1000) :
  Calls Tryz.prog 82 #[.pointer (some ⟨a, 0, none⟩), .slice lao n lc] w fun e w' => e = .returned (.int .i64 6) /\ RJLeaves S w w' a r D J := by
 have CP := Lib.hid fun W => Fr.rpack_many J.next lao n lc W h hn
 have c6 := hj.c6
 have HF : Hid (∀ w', Below w.heap.size w w' -> RJLeaves S w w' a r D J) := fun w' hb => ⟨S, fun _ => .inl, hd.below hb, hj.below hb, Only.of_below _ hb (Nat.le_refl _)⟩
 clear hj hd h
 go_enter Tryz.func82, Tryz.ntmps82
 go_wp2_with fail
 refine (CP.out _).mono ?_
 rintro e w1 ⟨rfl, hb1⟩
 have HF2 := Lib.hid (HF.out _ hb1)
 clear hb1 CP
 go_wp2
 go_ret
 exact ⟨rfl, HF2.out⟩
set_option maxHeartbeats 4000000 in
theorem vcommit_bad (b off lc : Nat) (hj : Jr 136 w a r J) (hd : RStands S w r D) (ok : J.Ok D.disk.length) (h1 : 1 <= L.length) (h2 : L.length <= 48) (hs : ∀ x ∈ L, x.2.size <= maxLen) (h : SlW w (.slice (some ⟨b, off, none⟩) L.length lc) L) (hbl : b < w.heap.size) (hat : WritesAt w b off L) (hc : J.chkL D.disk.length L ≠ 0) :
  Calls Tryz.prog 82 #[.pointer (some ⟨a, 0, none⟩), .slice (some ⟨b, off, none⟩) L.length lc] w fun e w' => e = .returned (.int .i64 ((J.chkL D.disk.length L : Nat) : Int)) /\ RJLeaves S w w' a r D J := by
 have CP := Lib.hid (Fr.rpack_any J.next L _ w ok.n64 (by omega) hs h)
 have hn6 := pk_code J.next L h1 h2
 have c6 := hj.c6
 have HF : Hid (∀ w', Below w.heap.size w w' -> RJLeaves S w w' a r D J) := fun w' hb => ⟨S, fun _ => .inl, hd.below hb, hj.below hb, Only.of_below _ hb (Nat.le_refl _)⟩
 obtain ⟨qd, lcap, hcd⟩ : ∃ qd lcap, Hid (∀ W, Below w.heap.size w W -> W.cell? ⟨r, 0, none⟩ = some (.slice (some ⟨qd, 0, none⟩) D.disk.length lcap)) := by
  obtain ⟨qd, lcap, pv, href⟩ := hd
  exact ⟨qd, lcap, fun W hW => (href.kept (Only.of_below (fun _ => False) hW (Nat.le_refl _)) (fun _ _ f => f)).c0⟩
 have hdn := hd.ok.few
 have hl1 := ok.l1
 have CH : Hid (∀ W, Below w.heap.size w W -> Calls Tryz.prog 145 #[.pointer (some ⟨a, 0, none⟩)] W fun e w' => e = .returned (.int .i64 J.home) /\ W = w') := fun W hW => vhome_at (hj.below hW) (by omega)
 have HK : Hid (∀ W, Below w.heap.size w W -> W.cell? ⟨a, 0, none⟩ = some (.pointer (some ⟨r, 0, none⟩))) := fun W hW => (hj.below hW).c0
 have HC := Lib.hid hat
 have HBAD := Lib.hid hc
 have HS := Lib.hid hs
 have hpc : ((((Fr.pk J.next L).2 : Nat) : Int) == 6) = false := beq_eq_false_iff_ne.2 (by omega)
 clear hj hd h hat hc ok hs hn6
 generalize Fr.pk J.next L = PK at *
 obtain ⟨PL, pc⟩ := PK
 simp only at CP hpc
 obtain ⟨dn, hdn'⟩ : ∃ m, D.disk.length = m := ⟨_, rfl⟩
 rw [hdn'] at hcd hdn hl1 HBAD ⊢
 clear hdn'
 obtain ⟨n, hn⟩ : ∃ n, L.length = n := ⟨_, rfl⟩
 rw [hn] at h1 h2 CP ⊢
 have HN := Lib.hid hn; clear hn
 go_enter Tryz.func82, Tryz.ntmps82
 go_wp2_with fail
 refine CP.out.mono ?_
 rintro e w1 ⟨u, rfl, _, hb1⟩
 have HB1 := Lib.hid hb1; clear hb1 CP
 go_wp2_with fail
 go_loopw [7] (fun iv wr => ∃ k : Nat, k <= n /\ iv = .int .i64 (k : Int) /\ Hid (J.chkL dn L = J.chkL dn (L.drop k)) /\ Hid (Below w.heap.size w wr)) (fun iv _ => n - (intOf iv).toNat)
 case atStart => exact ⟨0, Nat.zero_le _, rfl, rfl, HB1⟩
 case round =>
  clear HB1
  obtain ⟨k, hk, rfl, HE, HB⟩ := hrel
  by_cases hlt : k < n
  ·have hkL : k < L.length := by rw [HN.out]; exact hlt
   have hkz : (k : Int) < (n : Int) := by omega
   obtain ⟨z0, x1⟩ := HC.out k hkL
   have x0 := (HB.out.cell (p := ⟨b, off + k * 2, none⟩) hbl).trans z0
   have HX1 : Hid (∀ W, Below w.heap.size w W -> W.cell? ⟨b, off + k * 2 + 1, none⟩ = some (.string L[k].2)) := fun W hW => (hW.cell (p := ⟨b, off + k * 2 + 1, none⟩) hbl).trans x1
   have c0 := HK.out _ HB.out
   have dc := hcd.out _ HB.out
   have hsz := HS.out L[k] (List.getElem_mem hkL)
   unfold maxLen at hsz
   clear x1 z0
   by_cases hx : J.chk1 dn L[k] = 0
   ·have HE2 : Hid (J.chkL dn L = J.chkL dn (L.drop (k + 1))) := by show _ = _; rw [HE.out, J.chkL_drop dn L k hkL hx]
    obtain ⟨y0, y1, y2⟩ := (J.chk1_ok dn _).1 hx
    clear hx HE
    generalize L[k] = x at *
    clear hkL
    obtain ⟨xb, xd⟩ := x
    simp only at x0 HX1 y0 y1 y2 hsz
    have d1 : decide (xb < (J.home : Int)) = false := decide_eq_false (by omega)
    have d2 : decide ((dn : Int) <= xb) = false := decide_eq_false (by omega)
    have q1 : ¬ xb < (J.home : Int) := by omega
    have q2 : ¬ (dn : Int) <= xb := by omega
    have hne : ((xd.size : Int) != 256) = false := by simp; omega
    clear y0 y1
    generalize J.home = ho at *
    go_wp2_with fail
    go_quiet ((go_at_call 145; refine Calls.quiet_of_same (((CH.out _ ?_).mono (fun e w' h => ⟨h.1, h.2.symm⟩))); exact ⟨HB.out.os, HB.out.tape, HB.out.output, HB.out.size, HB.out.block⟩))
    have HBn : Hid (Below w.heap.size w (wr.drewN nq)) := Fr.below_drewN HB.out _
    have x1 := HX1.out _ HBn.out
    go_wp2
    go_roundw
    case rel => exact ⟨k + 1, by omega, by go_num, HE2, HBn⟩
    case measure => simp [intOf]; omega
   ·have HE2 := Lib.hid (show J.chkL dn L = J.chk1 dn L[k] by rw [HE.out, J.chkL_at dn L k hkL hx])
    clear HE
    generalize L[k] = x at *
    clear hkL
    obtain ⟨xb, xd⟩ := x
    simp only at x0 HX1 hsz
    unfold JS.chk1 at hx HE2
    simp only at hx HE2
    by_cases hr : xb < (J.home : Int) \/ (dn : Int) <= xb
    ·rw [if_pos hr] at HE2
     clear hx
     by_cases q1 : xb < (J.home : Int)
     ·have d1 : decide (xb < (J.home : Int)) = true := decide_eq_true q1
      generalize J.home = ho at *
      go_wp2_with fail
      go_quiet ((go_at_call 145; refine Calls.quiet_of_same (((CH.out _ ?_).mono (fun e w' h => ⟨h.1, h.2.symm⟩))); exact ⟨HB.out.os, HB.out.tape, HB.out.output, HB.out.size, HB.out.block⟩))
      have HF2 := Lib.hid (HF.out _ (Fr.below_drewN HB.out nq))
      go_wp2
      go_ret
      exact ⟨by rw [HE2.out]; rfl, HF2.out⟩
     ·have q2 : (dn : Int) <= xb := by omega
      have d1 : decide (xb < (J.home : Int)) = false := decide_eq_false q1
      have d2 : decide ((dn : Int) <= xb) = true := decide_eq_true q2
      generalize J.home = ho at *
      go_wp2_with fail
      go_quiet ((go_at_call 145; refine Calls.quiet_of_same (((CH.out _ ?_).mono (fun e w' h => ⟨h.1, h.2.symm⟩))); exact ⟨HB.out.os, HB.out.tape, HB.out.output, HB.out.size, HB.out.block⟩))
      have HF2 := Lib.hid (HF.out _ (Fr.below_drewN HB.out nq))
      go_wp2
      go_ret
      exact ⟨by rw [HE2.out]; rfl, HF2.out⟩
    ·rw [if_neg hr] at hx HE2
     by_cases hz : xd.size ≠ 256
     ·rw [if_pos hz] at HE2
      have hne : ((xd.size : Int) != 256) = true := by simp; omega
      have d1 : decide (xb < (J.home : Int)) = false := decide_eq_false (by omega)
      have d2 : decide ((dn : Int) <= xb) = false := decide_eq_false (by omega)
      have q1 : ¬ xb < (J.home : Int) := by omega
      have q2 : ¬ (dn : Int) <= xb := by omega
      clear hx hz hr
      generalize J.home = ho at *
      go_wp2_with fail
      go_quiet ((go_at_call 145; refine Calls.quiet_of_same (((CH.out _ ?_).mono (fun e w' h => ⟨h.1, h.2.symm⟩))); exact ⟨HB.out.os, HB.out.tape, HB.out.output, HB.out.size, HB.out.block⟩))
      have HBn : Hid (Below w.heap.size w (wr.drewN nq)) := Fr.below_drewN HB.out _
      have x1 := HX1.out _ HBn.out
      have HF2 := Lib.hid (HF.out _ HBn.out)
      go_wp2
      go_ret
      exact ⟨by rw [HE2.out]; rfl, HF2.out⟩
     ·rw [if_neg hz] at hx; exact absurd rfl hx
  ·exfalso
   apply HBAD.out
   rw [HE.out, List.drop_of_length_le (by rw [HN.out]; omega)]; rfl
end
end Go.Proofs.YthambopnmhkeeaaGreat
/- The document's own Commit of what may be committed: what it answers and leaves behind. -/
set_option maxRecDepth 100000
namespace Go.Proofs.YthambopnmhkeeaaGreat
open Go.RowKit
open Fr (SlW SlS WritesAt StrsAt OwnS)
section
variable {S : Nat -> Prop} {w w1 w' : World} {a r : Nat} {J : JS} {D : DevS} {L : List (Int × ByteArray)}
set_option maxHeartbeats 4000000 in
theorem vcommit_good (b off lc : Nat) (hj : Jr 136 w a r J) (hd : RStands S w r D) (ha : ¬ S a) (ok : J.Ok D.disk.length) (hp : D.pend.length <= 700000) (h1 : 1 <= L.length) (h2 : L.length <= 48) (hw : ∀ x ∈ L, J.WrOk D.disk.length x) (hs : ∀ x ∈ L, x.2.size <= maxLen) (h : SlW w (.slice (some ⟨b, off, none⟩) L.length lc) L) (hbl : b < w.heap.size) (hat : WritesAt w b off L) (hsb : ¬ S b) (hab : b ≠ a) :
  Calls Tryz.prog 82 #[.pointer (some ⟨a, 0, none⟩), .slice (some ⟨b, off, none⟩) L.length lc] w fun e w' => e = .returned (.int .i64 (J.commit D L).1) /\ RJLeaves S w w' a r (J.commit D L).2.1 (J.commit D L).2.2 := by
 have hdn := hd.ok.few
 have HPk : Hid (Fr.pk J.next L = (Fr.packL J.next L, 0)) := by
  show _ = _
  unfold Fr.pk
  rw [if_pos ((Fr.chk_ok L).2 ⟨h1, h2, fun x hx => JS.wrok_frame hdn (hw x hx)⟩)]
 have CP := Fr.rpack_any J.next L _ w ok.n64 (by omega) hs h
 rw [HPk.out] at CP
 have CP := Lib.hid CP
 have HCm0 : Hid (J.commit D L = (fun c : Int × DevS × JS => if c.1 ≠ 0 then c else if (c.2.2.addF c.2.1 (Fr.bs (Fr.topL J.next L)) (L.map (·.2))).1 ≠ 0 then c.2.2.addF c.2.1 (Fr.bs (Fr.topL J.next L)) (L.map (·.2)) else
   (((c.2.2.addF c.2.1 (Fr.bs (Fr.topL J.next L)) (L.map (·.2))).2.1.wrs L).1, ((c.2.2.addF c.2.1 (Fr.bs (Fr.topL J.next L)) (L.map (·.2))).2.1.wrs L).2, (c.2.2.addF c.2.1 (Fr.bs (Fr.topL J.next L)) (L.map (·.2))).2.2)) (if J.left < L.length + 2 then J.ckp D else (0, D, J))) := by
  show _ = _
  unfold JS.commit
  rw [if_neg (by rw [ne_eq, Classical.not_not]; exact (J.chk_ok _ L).2 ⟨h1, h2, hw⟩)]
 have c6 := hj.c6
 have HJ := Lib.hid (RJ.start hj hd ha)
 obtain ⟨qd, lcap, hcd⟩ : ∃ qd lcap, Hid (∀ W, Below w.heap.size w W -> W.cell? ⟨r, 0, none⟩ = some (.slice (some ⟨qd, 0, none⟩) D.disk.length lcap)) := by
  obtain ⟨qd, lcap, pv, href⟩ := hd
  exact ⟨qd, lcap, fun W hW => (href.kept (Only.of_below (fun _ => False) hW (Nat.le_refl _)) (fun _ _ f => f)).c0⟩
 have hl1 := ok.l1; have hl0 := ok.l0; have hfu := ok.fu
 have CH : Hid (∀ W, Below w.heap.size w W -> Calls Tryz.prog 145 #[.pointer (some ⟨a, 0, none⟩)] W fun e w' => e = .returned (.int .i64 J.home) /\ W = w') := fun W hW => vhome_at (hj.below hW) (by omega)
 have HK : Hid (∀ W, Below w.heap.size w W -> W.cell? ⟨a, 0, none⟩ = some (.pointer (some ⟨r, 0, none⟩)) /\ W.cell? ⟨a, 3, none⟩ = some (.int .i64 (J.log : Int)) /\ W.cell? ⟨a, 7, none⟩ = some (.int .i64 (J.full : Int))) := fun W hW => ⟨(hj.below hW).c0, (hj.below hW).c3, (hj.below hW).c7⟩
 have HC := Lib.hid hat
 have HW := Lib.hid hw
 have HS := Lib.hid hs
 have HOK := Lib.hid ok
 have HSB := Lib.hid hsb
 have HLa : Hid (¬ S (w.heap.size)) := fun hk => by have := hd.lt _ hk; omega
 have HSl : Hid (∀ k, S k -> k < w.heap.size) := hd.lt
 have HAl : Hid (a < w.heap.size) := hj.lt
 clear hj hd h hat hs hw ok hsb HPk ha
 obtain ⟨dn, hdn'⟩ : ∃ m, D.disk.length = m := ⟨_, rfl⟩
 rw [hdn'] at hcd hdn hl1 HW
 have HDN := Lib.hid hdn'
 clear hdn'
 obtain ⟨n, hn⟩ : ∃ n, L.length = n := ⟨_, rfl⟩
 rw [hn] at h1 h2 CP HCm0 ⊢
 have HN := Lib.hid hn; clear hn
 go_enter Tryz.func82, Tryz.ntmps82
 go_wp2_with fail
 refine CP.out.mono ?_
 rintro e w1 ⟨u, rfl, hu, hb1⟩
 obtain ⟨g, c4, hv, hcap, hgb, hg2, hst, _⟩ := hu.here (by simp [Fr.packL])
 have hlp : (Fr.packL J.next L).length = n + 1 := by simp [Fr.packL]; exact HN.out
 rw [hlp] at hv hcap
 subst hv
 have HRow := Lib.hid hst
 have HB1 := Lib.hid hb1; clear hb1 CP hu hst hlp c6
 go_wp2_with fail
 go_loopw [7] (fun iv wr => ∃ k : Nat, k <= n /\ iv = .int .i64 (k : Int) /\ Hid (Below w1.heap.size w1 wr)) (fun iv _ => n - (intOf iv).toNat)
 case atStart => exact ⟨0, Nat.zero_le _, rfl, (show Below _ _ _ from Below.refl _ _)⟩
 case round =>
  obtain ⟨k, hk, rfl, HBw⟩ := hrel
  have HB : Hid (Below w.heap.size w wr) := keep_call HB1.out HBw.out
  by_cases hlt : k < n
  ·have hkL : k < L.length := by rw [HN.out]; exact hlt
   have hkz : (k : Int) < (n : Int) := by omega
   obtain ⟨z0, x1⟩ := HC.out k hkL
   have x0 := (HB.out.cell (p := ⟨b, off + k * 2, none⟩) hbl).trans z0
   have HX1 : Hid (∀ W, Below w.heap.size w W -> W.cell? ⟨b, off + k * 2 + 1, none⟩ = some (.string L[k].2)) := fun W hW => (hW.cell (p := ⟨b, off + k * 2 + 1, none⟩) hbl).trans x1
   have c0 := (HK.out _ HB.out).1
   have dc := hcd.out _ HB.out
   obtain ⟨y0, y1, y2⟩ := HW.out L[k] (List.getElem_mem hkL)
   clear x1 z0
   generalize L[k] = x at *
   clear hkL
   obtain ⟨xb, xd⟩ := x
   simp only at x0 HX1 y0 y1 y2
   have d1 : decide (xb < (J.home : Int)) = false := decide_eq_false (by omega)
   have d2 : decide ((dn : Int) <= xb) = false := decide_eq_false (by omega)
   have q1 : ¬ xb < (J.home : Int) := by omega
   have q2 : ¬ (dn : Int) <= xb := by omega
   have hne : ((xd.size : Int) != 256) = false := by simp; omega
   clear y0 y1
   generalize J.home = ho at *
   go_wp2_with fail
   go_quiet ((go_at_call 145; refine Calls.quiet_of_same (((CH.out _ ?_).mono (fun e w' h => ⟨h.1, h.2.symm⟩))); exact ⟨HB.out.os, HB.out.tape, HB.out.output, HB.out.size, HB.out.block⟩))
   have HBn : Hid (Below w1.heap.size w1 (wr.drewN nq)) := Fr.below_drewN HBw.out _
   have x1 := HX1.out _ (Fr.below_drewN HB.out nq)
   go_wp2
   go_roundw
   case rel => exact ⟨k + 1, by omega, by go_num, HBn⟩
   case measure => simp [intOf]; omega
  ·obtain rfl : k = n := by omega
   clear CH hcd
   have hleft : J.left = J.log - J.full := rfl
   obtain ⟨c0, c3, c7⟩ := HK.out _ HB.out
   have HJw := Lib.hid (HJ.out.below HB.out)
   have HC2 : Hid (∀ W : World, W.heap[b]? = wr.heap[b]? -> WritesAt W b off L) := fun W hW => cells_heapO HC.out (hW.trans (HB.out.block b hbl))
   have hblw : b < wr.heap.size := Nat.lt_of_lt_of_le hbl HB.out.size
   have hglw : g < wr.heap.size := Nat.lt_of_lt_of_le hg2 HBw.out.size
   have HRw : Hid (∀ W : World, W.heap[g]? = wr.heap[g]? -> StrsAt W g 0 (Fr.bs (Fr.topL J.next L) :: L.map (·.2))) := fun W hW j hj => by
    refine (World.cell?_of_block (w := wr) (a := ⟨g, 0 + j, none⟩) hW).trans ?_
    exact (HBw.out.cell (p := ⟨g, 0 + j, none⟩) hg2).trans (HRow.out j hj)
   have HGS : Hid (¬ S g /\ g ≠ a) := ⟨fun hk => by have := HSl.out g hk; omega, by have := HAl.out; omega⟩
   clear HC HRow HBw HB1 HK HLa
   by_cases hlt2 : J.left < k + 2
   ·rw [if_pos hlt2] at HCm0
    have hgt : (J.log : Int) - (J.full : Int) < (k : Int) + 1 + 1 := by omega
    go_wp2_with fail
    go_quiet (fail)
    have HJn := Lib.hid (HJw.out.below (Fr.below_drewN (Below.refl _ _) nq))
    have CK := Lib.hid (vckp_any HJn.out.jr HJn.out.dev HJn.out.na HOK.out (by omega))
    have HCd : Hid ((J.ckp D).2.1.disk.length = D.disk.length /\ (J.ckp D).2.1.pend.length <= 710000 /\ ((J.ckp D).1 = 0 -> (J.ckp D).2.2 = J.next')) := ⟨JS.ckp_disk, by have := JS.ckp_len (J := J) (D := D); omega, JS.ckp_good⟩
    generalize J.ckp D = R1 at *
    obtain ⟨er1, D0, J0⟩ := R1
    simp only at CK HCd HCm0
    go_wp2_with fail
    refine CK.out.mono ?_
    rintro e w4 ⟨rfl, hl4⟩
    obtain ⟨S0, hr0, hk0⟩ := HJn.out.all hl4
    have HB0 := Lib.hid (hk0 b (by simpa using hblw) HSB.out hab)
    have HG0 := Lib.hid (hk0 g (by simpa using hglw) HGS.out.1 HGS.out.2)
    have HR0 := Lib.hid hr0
    clear hl4 hr0 hk0 CK HJn HJw c0 c3 c7
    by_cases he1 : er1 = 0
    ·have he1' : (er1 != 0) = false := by simp [he1]
     rw [if_neg (by simpa using he1)] at HCm0
     obtain ⟨hk1, hk2, hk3⟩ := HCd.out
     have hJ0 := hk3 he1
     have HCm := HCm0
     have HOK0 : Hid (J0.Ok D0.disk.length) := by show J0.Ok _; rw [hk1, hJ0]; exact HOK.out.next'
     have HDk0 : Hid (D0.disk.length = dn) := by show _ = _; rw [hk1]; exact HDN.out
     have hfu0 : J0.full + k + 1 <= J0.log := by rw [hJ0]; show 0 + k + 1 <= J.log; omega
     have hlog0 : J0.log <= 4096 := by rw [hJ0]; show J.log <= 4096; omega
     have hrow : w4.heap[b]? = wr.heap[b]? := by rw [HB0.out.2.1]; simp
     have hrog : w4.heap[g]? = wr.heap[g]? := by rw [HG0.out.2.1]; simp
     have HRow0 := Lib.hid (HRw.out w4 hrog)
     have HC0 := Lib.hid (HC2.out w4 hrow)
     have hb0 := HB0.out.2.2
     have hg0 := HG0.out.2.2
     have HSb0 := Lib.hid HB0.out.1
     have HSg0 := Lib.hid HG0.out.1
     clear hk3 hJ0 HRw HC2 hrow hrog HB0 HG0 HCd HCm0 hk1
     have CA := vlog_any (ds := L.map (·.2)) (top := Fr.bs (Fr.topL J.next L)) g 0 c4 HR0.out.jr HR0.out.dev HR0.out.na HOK0.out (by omega) (by rw [List.length_map, HN.out]; exact h2) (by rw [List.length_map, HN.out]; exact hfu0) hg0 HRow0.out HSg0.out
     rw [List.length_map, HN.out] at CA
     have CA := Lib.hid CA
     have HX : Hid ((J0.addF D0 (Fr.bs (Fr.topL J.next L)) (L.map (·.2))).2.1.disk.length = dn /\ (J0.addF D0 (Fr.bs (Fr.topL J.next L)) (L.map (·.2))).2.1.pend.length <= 800000) := by
      refine ⟨JS.addF_disk.trans HDk0.out, ?_⟩
      have := JS.addF_len (J := J0) (D := D0) (top := Fr.bs (Fr.topL J.next L)) (ds := L.map (·.2))
      rw [List.length_map, HN.out] at this
      omega
     have HAE := Lib.hid (addF_err (J := J0) (D1 := D0) (t := Fr.bs (Fr.topL J.next L)) (ds := L.map (·.2)))
     have HAG := addF_good (J := J0) (D1 := D0) (t := Fr.bs (Fr.topL J.next L)) (ds := L.map (·.2))
     rw [List.length_map, HN.out] at HAG
     have HAG := Lib.hid HAG
     generalize J0.addF D0 (Fr.bs (Fr.topL J.next L)) (L.map (·.2)) = R2 at *
     obtain ⟨er2, D2, J2⟩ := R2
     simp only at CA HX HCm HAE HAG
     clear HRow0
     go_wp2_with fail
     refine CA.out.mono ?_
     rintro e w5 ⟨rfl, hl5⟩
     obtain ⟨S5, hr5, hk5⟩ := HR0.out.all hl5
     have HB5 := Lib.hid (hk5 b hb0 HSb0.out hab)
     have HR5 := Lib.hid hr5
     clear hl5 hr5 hk5 CA HR0
     by_cases he2 : er2 = 0
     ·have he2' : (er2 != 0) = false := by simp [he2]
      rw [if_neg (by simpa using he2)] at HCm
      have hJ2 := HAG.out he2
      clear HAE HAG
      have c7 := HR5.out.jr.c7; have c6 := HR5.out.jr.c6; have f7 := HR5.out.jr.f 7; have f6 := HR5.out.jr.f 6
      have wN : IntKind.u64.wrap ((J0.next : Int) + 1) = (((J0.next + 1) % 18446744073709551616 : Nat) : Int) := by simp [IntKind.wrap, IntKind.bits, IntKind.signed]
      have HN5 : Hid (RJ w ((w5.setCell ⟨a, 7, none⟩ (.int .i64 ((J0.full : Int) + ((k : Int) + 1)))).setCell ⟨a, 6, none⟩ (.int .u64 (((J0.next + 1) % 18446744073709551616 : Nat) : Int))) S5 a r J2 D2 S) := by
       rw [hJ2]
       have k1 := HR5.out.put (J' := { J0 with full := J0.full + (k + 1) }) (i := 7) (v := .int .i64 ((J0.full : Int) + ((k : Int) + 1))) (by simp [JCells])
       exact k1.put (J' := J0.grow (k + 1)) (i := 6) (v := .int .u64 (((J0.next + 1) % 18446744073709551616 : Nat) : Int)) (by simp [JCells, JS.grow])
      obtain ⟨nx, hnx'⟩ : ∃ nx : Nat, (J0.next + 1) % 18446744073709551616 = nx := ⟨_, rfl⟩
      rw [hnx'] at wN HN5
      obtain ⟨w6, hw6⟩ : ∃ W, (w5.setCell ⟨a, 7, none⟩ (.int .i64 ((J0.full : Int) + ((k : Int) + 1)))).setCell ⟨a, 6, none⟩ (.int .u64 (nx : Int)) = W := ⟨_, rfl⟩
      rw [hw6] at HN5
      have HW6 := Lib.hid hw6
      have HC6 : Hid (WritesAt w6 b off L) := by
       refine cells_heapO HC0.out (Eq.trans ?_ HB5.out.2.1)
       rw [<- hw6]
       rw [set_ne hab, set_ne hab]
      have hb6 : b < w6.heap.size := by rw [<- hw6, set_size, set_size]; exact HB5.out.2.2
      have HSb6 := Lib.hid HB5.out.1
      clear hnx' hw6 hJ2 HR5 HB5 HC0 HSb0
      go_wp2_with fail
      rw [HW6.out]
      clear HW6 c6 c7 f6 f7 wN
      go_loopw [9] (fun i wq => ∃ (m : Nat) (Sq : Nat -> Prop), m <= k /\ i = .int .i64 (m : Int) /\ Hid ((D2.wrs (L.take m)).1 = 0) /\ Hid (RJ w wq Sq a r J2 (D2.wrs (L.take m)).2 S) /\ Hid (¬ Sq b) /\ Hid (wq.heap[b]? = w6.heap[b]?) /\ b < wq.heap.size) (fun i _ => k - (intOf i).toNat)
      case atStart => exact ⟨0, S5, Nat.zero_le _, rfl, rfl, HN5, HSb6, rfl, hb6⟩
      case round =>
       clear HN5 HSb6
       obtain ⟨m, Sq, hm, rfl, HZ, HRq, HGq, HHq, hgq⟩ := hrel
       by_cases hlt : m < k
       ·have hmL : m < L.length := by rw [HN.out]; exact hlt
        have hmz : (m : Int) < (k : Int) := by omega
        obtain ⟨y0, y1⟩ := cells_heapO HC6.out HHq.out m hmL
        have HG := Lib.hid fun h0 he => wrs_goes D2 L m hmL h0 he
        have HSt := Lib.hid fun h0 he => wrs_stop D2 L m hmL h0 he
        have hpk2 : (D2.wrs (L.take m)).2.pend.length <= 800100 := by have := D2.wrs_len (L.take m); rw [List.length_take] at this; have := HX.out.2; omega
        obtain ⟨x, hx⟩ : ∃ x, L[m] = x := ⟨_, rfl⟩
        rw [hx] at y0 y1 HG HSt
        clear hx hmL
        obtain ⟨xb, xd⟩ := x
        simp only at y0 y1 HG HSt
        generalize (D2.wrs (L.take m)) = Q at *
        obtain ⟨Q1, Q2⟩ := Q
        simp only at HG HSt HZ HRq hpk2
        obtain ⟨R, hR⟩ : ∃ R, Q2.wr xb xd = R := ⟨_, rfl⟩
        rw [hR] at HG HSt
        have c0 := HRq.out.jr.c0
        have CW : Hid (∀ W, Below wr.heap.size wr W -> Calls Tryz.prog 29 #[.pointer (some ⟨r, 0, none⟩), .int .i64 xb, .string xd] W fun e w' => e = .returned (.int .i64 R.1) /\ ∃ S', RJ w w' S' a r J2 R.2 S /\ ¬ S' b /\ w'.heap[b]? = w6.heap[b]? /\ b < w'.heap.size) := fun W hW => by
         have h2 := HRq.out.below hW
         have hgW : b < W.heap.size := Nat.lt_of_lt_of_le hgq hW.size
         have := rwrite_any xb xd (by omega) h2.dev
         rw [hR] at this
         refine this.mono fun e w' ⟨he, hl⟩ => ?_
         obtain ⟨S', j1, j2, j3, j4⟩ := h2.leavesB hl b hgW HGq.out
         exact ⟨he, S', j1, j2, by rw [j3, hW.block b hgq]; exact HHq.out, j4⟩
        have HKg : Hid (∀ W : World, Jr 136 W a r J2 -> W.heap[b]? = w6.heap[b]? -> W.cell? ⟨a, 0, none⟩ = some (.pointer (some ⟨r, 0, none⟩)) /\ W.cell? ⟨b, off + m * 2, none⟩ = some (.int .i64 xb) /\ W.cell? ⟨b, off + m * 2 + 1, none⟩ = some (.string xd)) := fun W hj hW =>
         ⟨hj.c0, (World.cell?_of_block (w := wr) (a := ⟨b, off + m * 2, none⟩) (hW.trans HHq.out.symm)).trans y0, (World.cell?_of_block (w := wr) (a := ⟨b, off + m * 2 + 1, none⟩) (hW.trans HHq.out.symm)).trans y1⟩
        clear hR HRq HGq
        obtain ⟨er, DR⟩ := R
        simp only at CW HG HSt
        go_wp2_with fail
        go_region_held3 (fun W => W.cell? ⟨a, 0, none⟩ = some (.pointer (some ⟨r, 0, none⟩)) /\ W.cell? ⟨b, off + m * 2, none⟩ = some (.int .i64 xb) /\ W.cell? ⟨b, off + m * 2 + 1, none⟩ = some (.string xd))
         (first | exact ⟨c0, y0, y1⟩ | assumption)
         (first
          | (go_at_call 29; (with_reducible refine (CW.out _ ((Below.refl _ _).drew)).mono ?_); rintro e w7 ⟨rfl, S7, hr7, hg7, hh7, hgl7⟩; have hk7 := HKg.out w7 hr7.jr hh7))
        have HR7 := Lib.hid hr7; have HG7 := Lib.hid hg7; have HH7 := Lib.hid hh7
        clear hr7 hg7 hh7 hk7 CW HKg y0 y1 c0
        by_cases her : er = 0
        ·have her' : (er != 0) = false := by simp [her]
         have HNn : Hid ((D2.wrs (L.take (m + 1))).1 = 0 /\ (D2.wrs (L.take (m + 1))).2 = DR) := HG.out HZ.out her
         clear HG HSt
         go_wp2
         go_roundw
         case rel => exact ⟨m + 1, S7, by omega, by go_num, HNn.out.1, by show RJ _ _ _ _ _ _ _ _; rw [HNn.out.2]; exact HR7.out, HG7, HH7, hgl7⟩
         case measure => simp [intOf]; omega
        ·have her' : (er != 0) = true := by simp [her]
         have HWs : Hid (D2.wrs L = (er, DR)) := HSt.out HZ.out her
         clear HG HSt
         go_wp2
         go_ret
         refine ⟨?_, ?_⟩
         ·rw [HCm.out, HWs.out]; rfl
         ·rw [HCm.out, HWs.out]; exact HR7.out.ends
       ·obtain rfl : m = k := by omega
        have hmz : ¬ (m : Int) < (m : Int) := by omega
        have hte : L.take m = L := by rw [<- HN.out, List.take_length]
        rw [hte] at HZ HRq
        go_wp2
        go_ret
        refine ⟨?_, ?_⟩
        ·rw [HCm.out]; show _ = Ending.returned (.int .i64 (D2.wrs L).1); rw [HZ.out]; rfl
        ·rw [HCm.out]; exact HRq.out.ends
     ·have he2' : (er2 != 0) = true := by simp [he2]
      rw [if_pos (by simpa using he2)] at HCm
      have hJ2 := HAE.out he2
      subst hJ2
      go_wp2
      go_ret
      exact ⟨by rw [HCm.out]; rfl, by rw [HCm.out]; exact HR5.out.ends⟩
    ·have he1' : (er1 != 0) = true := by simp [he1]
     rw [if_pos (by simpa using he1)] at HCm0
     have HF := Lib.hid (HR0.out.ends)
     go_wp2
     go_ret
     exact ⟨by rw [HCm0.out]; rfl, by rw [HCm0.out]; exact HF.out⟩
   ·rw [if_neg hlt2] at HCm0
    have HCm : Hid (J.commit D L = if (J.addF D (Fr.bs (Fr.topL J.next L)) (L.map (·.2))).1 ≠ 0 then J.addF D (Fr.bs (Fr.topL J.next L)) (L.map (·.2)) else
     (((J.addF D (Fr.bs (Fr.topL J.next L)) (L.map (·.2))).2.1.wrs L).1, ((J.addF D (Fr.bs (Fr.topL J.next L)) (L.map (·.2))).2.1.wrs L).2, (J.addF D (Fr.bs (Fr.topL J.next L)) (L.map (·.2))).2.2)) := HCm0.out
    have hgt : ¬ (J.log : Int) - (J.full : Int) < (k : Int) + 1 + 1 := by omega
    go_wp2_with fail
    go_quiet (fail)
    obtain ⟨w4, hw4⟩ : ∃ W, wr.drewN nq = W := ⟨_, rfl⟩
    have hb4 : Below wr.heap.size wr w4 := by rw [<- hw4]; exact Fr.below_drewN (Below.refl _ _) nq
    rw [hw4]
    clear hw4 HCm0
    obtain ⟨J0, hJ0⟩ : ∃ J', J = J' := ⟨_, rfl⟩
    obtain ⟨D0, hD0⟩ : ∃ D', D = D' := ⟨_, rfl⟩
    obtain ⟨S0, hS0⟩ : ∃ S', S = S' := ⟨_, rfl⟩
    have HR0 : Hid (RJ w w4 S0 a r J0 D0 S) := by have := HJw.out.below hb4; rw [<- hJ0, <- hD0]; rw [<- hS0]; exact this
    have HOK0 : Hid (J0.Ok D0.disk.length) := by rw [<- hJ0, <- hD0]; exact HOK
    have HDk0 : Hid (D0.disk.length = dn) := by rw [<- hD0]; exact HDN
    have hfu0 : J0.full + k + 1 <= J0.log := by rw [<- hJ0]; omega
    have hlog0 : J0.log <= 4096 := by rw [<- hJ0]; omega
    have hk2 : D0.pend.length <= 710000 := by rw [<- hD0]; omega
    have HRow0 := Lib.hid (HRw.out w4 (hb4.block g hglw))
    have HC0 := Lib.hid (HC2.out w4 (hb4.block b hblw))
    have hb0 : b < w4.heap.size := Nat.lt_of_lt_of_le hblw hb4.size
    have hg0 : g < w4.heap.size := Nat.lt_of_lt_of_le hglw hb4.size
    have HSb0 : Hid (¬ S0 b) := by rw [<- hS0]; exact HSB
    have HSg0 : Hid (¬ S0 g) := by rw [<- hS0]; exact Lib.hid HGS.out.1
    have HCm2 : Hid (J.commit D L = if (J0.addF D0 (Fr.bs (Fr.topL J.next L)) (L.map (·.2))).1 ≠ 0 then J0.addF D0 (Fr.bs (Fr.topL J.next L)) (L.map (·.2)) else
     (((J0.addF D0 (Fr.bs (Fr.topL J.next L)) (L.map (·.2))).2.1.wrs L).1, ((J0.addF D0 (Fr.bs (Fr.topL J.next L)) (L.map (·.2))).2.1.wrs L).2, (J0.addF D0 (Fr.bs (Fr.topL J.next L)) (L.map (·.2))).2.2)) := by rw [<- hJ0, <- hD0]; exact HCm
    clear HCm HJw hb4 c0 c3 c7 HRw HC2 hJ0 hD0 hS0
    have HCm := HCm2
    clear HCm2
    have CA := vlog_any (ds := L.map (·.2)) (top := Fr.bs (Fr.topL J.next L)) g 0 c4 HR0.out.jr HR0.out.dev HR0.out.na HOK0.out (by omega) (by rw [List.length_map, HN.out]; exact h2) (by rw [List.length_map, HN.out]; exact hfu0) hg0 HRow0.out HSg0.out
    rw [List.length_map, HN.out] at CA
    have CA := Lib.hid CA
    have HX : Hid ((J0.addF D0 (Fr.bs (Fr.topL J.next L)) (L.map (·.2))).2.1.disk.length = dn /\ (J0.addF D0 (Fr.bs (Fr.topL J.next L)) (L.map (·.2))).2.1.pend.length <= 800000) := by
     refine ⟨JS.addF_disk.trans HDk0.out, ?_⟩
     have := JS.addF_len (J := J0) (D := D0) (top := Fr.bs (Fr.topL J.next L)) (ds := L.map (·.2))
     rw [List.length_map, HN.out] at this
     omega
    have HAE := Lib.hid (addF_err (J := J0) (D1 := D0) (t := Fr.bs (Fr.topL J.next L)) (ds := L.map (·.2)))
    have HAG := addF_good (J := J0) (D1 := D0) (t := Fr.bs (Fr.topL J.next L)) (ds := L.map (·.2))
    rw [List.length_map, HN.out] at HAG
    have HAG := Lib.hid HAG
    generalize J0.addF D0 (Fr.bs (Fr.topL J.next L)) (L.map (·.2)) = R2 at *
    obtain ⟨er2, D2, J2⟩ := R2
    simp only at CA HX HCm HAE HAG
    clear HRow0
    go_wp2_with fail
    refine CA.out.mono ?_
    rintro e w5 ⟨rfl, hl5⟩
    obtain ⟨S5, hr5, hk5⟩ := HR0.out.all hl5
    have HB5 := Lib.hid (hk5 b hb0 HSb0.out hab)
    have HR5 := Lib.hid hr5
    clear hl5 hr5 hk5 CA HR0
    by_cases he2 : er2 = 0
    ·have he2' : (er2 != 0) = false := by simp [he2]
     rw [if_neg (by simpa using he2)] at HCm
     have hJ2 := HAG.out he2
     clear HAE HAG
     have c7 := HR5.out.jr.c7; have c6 := HR5.out.jr.c6; have f7 := HR5.out.jr.f 7; have f6 := HR5.out.jr.f 6
     have wN : IntKind.u64.wrap ((J0.next : Int) + 1) = (((J0.next + 1) % 18446744073709551616 : Nat) : Int) := by simp [IntKind.wrap, IntKind.bits, IntKind.signed]
     have HN5 : Hid (RJ w ((w5.setCell ⟨a, 7, none⟩ (.int .i64 ((J0.full : Int) + ((k : Int) + 1)))).setCell ⟨a, 6, none⟩ (.int .u64 (((J0.next + 1) % 18446744073709551616 : Nat) : Int))) S5 a r J2 D2 S) := by
      rw [hJ2]
      have k1 := HR5.out.put (J' := { J0 with full := J0.full + (k + 1) }) (i := 7) (v := .int .i64 ((J0.full : Int) + ((k : Int) + 1))) (by simp [JCells])
      exact k1.put (J' := J0.grow (k + 1)) (i := 6) (v := .int .u64 (((J0.next + 1) % 18446744073709551616 : Nat) : Int)) (by simp [JCells, JS.grow])
     obtain ⟨nx, hnx'⟩ : ∃ nx : Nat, (J0.next + 1) % 18446744073709551616 = nx := ⟨_, rfl⟩
     rw [hnx'] at wN HN5
     obtain ⟨w6, hw6⟩ : ∃ W, (w5.setCell ⟨a, 7, none⟩ (.int .i64 ((J0.full : Int) + ((k : Int) + 1)))).setCell ⟨a, 6, none⟩ (.int .u64 (nx : Int)) = W := ⟨_, rfl⟩
     rw [hw6] at HN5
     have HW6 := Lib.hid hw6
     have HC6 : Hid (WritesAt w6 b off L) := by
      refine cells_heapO HC0.out (Eq.trans ?_ HB5.out.2.1)
      rw [<- hw6]
      rw [set_ne hab, set_ne hab]
     have hb6 : b < w6.heap.size := by rw [<- hw6, set_size, set_size]; exact HB5.out.2.2
     have HSb6 := Lib.hid HB5.out.1
     clear hnx' hw6 hJ2 HR5 HB5 HC0 HSb0
     go_wp2_with fail
     rw [HW6.out]
     clear HW6 c6 c7 f6 f7 wN
     go_loopw [9] (fun i wq => ∃ (m : Nat) (Sq : Nat -> Prop), m <= k /\ i = .int .i64 (m : Int) /\ Hid ((D2.wrs (L.take m)).1 = 0) /\ Hid (RJ w wq Sq a r J2 (D2.wrs (L.take m)).2 S) /\ Hid (¬ Sq b) /\ Hid (wq.heap[b]? = w6.heap[b]?) /\ b < wq.heap.size) (fun i _ => k - (intOf i).toNat)
     case atStart => exact ⟨0, S5, Nat.zero_le _, rfl, rfl, HN5, HSb6, rfl, hb6⟩
     case round =>
      clear HN5 HSb6
      obtain ⟨m, Sq, hm, rfl, HZ, HRq, HGq, HHq, hgq⟩ := hrel
      by_cases hlt : m < k
      ·have hmL : m < L.length := by rw [HN.out]; exact hlt
       have hmz : (m : Int) < (k : Int) := by omega
       obtain ⟨y0, y1⟩ := cells_heapO HC6.out HHq.out m hmL
       have HG := Lib.hid fun h0 he => wrs_goes D2 L m hmL h0 he
       have HSt := Lib.hid fun h0 he => wrs_stop D2 L m hmL h0 he
       have hpk2 : (D2.wrs (L.take m)).2.pend.length <= 800100 := by have := D2.wrs_len (L.take m); rw [List.length_take] at this; have := HX.out.2; omega
       obtain ⟨x, hx⟩ : ∃ x, L[m] = x := ⟨_, rfl⟩
       rw [hx] at y0 y1 HG HSt
       clear hx hmL
       obtain ⟨xb, xd⟩ := x
       simp only at y0 y1 HG HSt
       generalize (D2.wrs (L.take m)) = Q at *
       obtain ⟨Q1, Q2⟩ := Q
       simp only at HG HSt HZ HRq hpk2
       obtain ⟨R, hR⟩ : ∃ R, Q2.wr xb xd = R := ⟨_, rfl⟩
       rw [hR] at HG HSt
       have c0 := HRq.out.jr.c0
       have CW : Hid (∀ W, Below wr.heap.size wr W -> Calls Tryz.prog 29 #[.pointer (some ⟨r, 0, none⟩), .int .i64 xb, .string xd] W fun e w' => e = .returned (.int .i64 R.1) /\ ∃ S', RJ w w' S' a r J2 R.2 S /\ ¬ S' b /\ w'.heap[b]? = w6.heap[b]? /\ b < w'.heap.size) := fun W hW => by
        have h2 := HRq.out.below hW
        have hgW : b < W.heap.size := Nat.lt_of_lt_of_le hgq hW.size
        have := rwrite_any xb xd (by omega) h2.dev
        rw [hR] at this
        refine this.mono fun e w' ⟨he, hl⟩ => ?_
        obtain ⟨S', j1, j2, j3, j4⟩ := h2.leavesB hl b hgW HGq.out
        exact ⟨he, S', j1, j2, by rw [j3, hW.block b hgq]; exact HHq.out, j4⟩
       have HKg : Hid (∀ W : World, Jr 136 W a r J2 -> W.heap[b]? = w6.heap[b]? -> W.cell? ⟨a, 0, none⟩ = some (.pointer (some ⟨r, 0, none⟩)) /\ W.cell? ⟨b, off + m * 2, none⟩ = some (.int .i64 xb) /\ W.cell? ⟨b, off + m * 2 + 1, none⟩ = some (.string xd)) := fun W hj hW =>
        ⟨hj.c0, (World.cell?_of_block (w := wr) (a := ⟨b, off + m * 2, none⟩) (hW.trans HHq.out.symm)).trans y0, (World.cell?_of_block (w := wr) (a := ⟨b, off + m * 2 + 1, none⟩) (hW.trans HHq.out.symm)).trans y1⟩
       clear hR HRq HGq
       obtain ⟨er, DR⟩ := R
       simp only at CW HG HSt
       go_wp2_with fail
       go_region_held3 (fun W => W.cell? ⟨a, 0, none⟩ = some (.pointer (some ⟨r, 0, none⟩)) /\ W.cell? ⟨b, off + m * 2, none⟩ = some (.int .i64 xb) /\ W.cell? ⟨b, off + m * 2 + 1, none⟩ = some (.string xd))
        (first | exact ⟨c0, y0, y1⟩ | assumption)
        (first
         | (go_at_call 29; (with_reducible refine (CW.out _ ((Below.refl _ _).drew)).mono ?_); rintro e w7 ⟨rfl, S7, hr7, hg7, hh7, hgl7⟩; have hk7 := HKg.out w7 hr7.jr hh7))
       have HR7 := Lib.hid hr7; have HG7 := Lib.hid hg7; have HH7 := Lib.hid hh7
       clear hr7 hg7 hh7 hk7 CW HKg y0 y1 c0
       by_cases her : er = 0
       ·have her' : (er != 0) = false := by simp [her]
        have HNn : Hid ((D2.wrs (L.take (m + 1))).1 = 0 /\ (D2.wrs (L.take (m + 1))).2 = DR) := HG.out HZ.out her
        clear HG HSt
        go_wp2
        go_roundw
        case rel => exact ⟨m + 1, S7, by omega, by go_num, HNn.out.1, by show RJ _ _ _ _ _ _ _ _; rw [HNn.out.2]; exact HR7.out, HG7, HH7, hgl7⟩
        case measure => simp [intOf]; omega
       ·have her' : (er != 0) = true := by simp [her]
        have HWs : Hid (D2.wrs L = (er, DR)) := HSt.out HZ.out her
        clear HG HSt
        go_wp2
        go_ret
        refine ⟨?_, ?_⟩
        ·rw [HCm.out, HWs.out]; rfl
        ·rw [HCm.out, HWs.out]; exact HR7.out.ends
      ·obtain rfl : m = k := by omega
       have hmz : ¬ (m : Int) < (m : Int) := by omega
       have hte : L.take m = L := by rw [<- HN.out, List.take_length]
       rw [hte] at HZ HRq
       go_wp2
       go_ret
       refine ⟨?_, ?_⟩
       ·rw [HCm.out]; show _ = Ending.returned (.int .i64 (D2.wrs L).1); rw [HZ.out]; rfl
       ·rw [HCm.out]; exact HRq.out.ends
    ·have he2' : (er2 != 0) = true := by simp [he2]
     rw [if_pos (by simpa using he2)] at HCm
     have hJ2 := HAE.out he2
     subst hJ2
     go_wp2
     go_ret
     exact ⟨by rw [HCm.out]; rfl, by rw [HCm.out]; exact HR5.out.ends⟩
theorem vcommit_any {v : Value} (hj : Jr 136 w a r J) (hd : RStands S w r D) (ha : ¬ S a) (ok : J.Ok D.disk.length) (hp : D.pend.length <= 700000) (hl : L.length <= 1000) (hs : ∀ x ∈ L, x.2.size <= maxLen) (h : SlW w v L) (hou : Outs S v) (hli : Lies w a v) :
  Calls Tryz.prog 82 #[.pointer (some ⟨a, 0, none⟩), v] w fun e w' => e = .returned (.int .i64 (J.commit D L).1) /\ RJLeaves S w w' a r (J.commit D L).2.1 (J.commit D L).2.2 := by
 by_cases hm : L.length = 0 \/ 48 < L.length
 ·have e : J.chk D.disk.length L = 6 := by unfold JS.chk; rw [if_pos hm]
  have e2 : J.commit D L = (6, D, J) := by unfold JS.commit; rw [e, if_pos (by omega)]; rfl
  obtain ⟨ao, c, rfl, _⟩ := h
  rw [e2]
  exact vcommit_many ao _ c hj hd hm hl
 ·have e : J.chk D.disk.length L = J.chkL D.disk.length L := by unfold JS.chk; rw [if_neg hm]
  obtain ⟨b, off, c, rfl, _, hb, hc⟩ := h.here (by omega)
  by_cases hx : J.chkL D.disk.length L = 0
  ·exact vcommit_good b off c hj hd ha ok hp (by omega) (by omega) ((J.chkL_ok _ L).1 hx) hs h hb hc (hou b off _ c rfl) (hli.ne b off _ c rfl)
  ·have e2 : J.commit D L = (((J.chkL D.disk.length L : Nat) : Int), D, J) := by unfold JS.commit; rw [e, if_pos hx]
   rw [e2]
   exact vcommit_bad b off c hj hd ok (by omega) (by omega) hs h hb hc hx
end
end Go.Proofs.YthambopnmhkeeaaGreat
/- The document's own journal: what Format answers and leaves behind: the same. -/
set_option maxRecDepth 100000
namespace Go.Proofs.YthambopnmhkeeaaGreat
open Go.RowKit
def fmtV (k : Nat) : List (Int × ByteArray) := (List.range k).map fun i => (((i + 1 : Nat) : Int), noughts)
theorem fmtV_succ (k : Nat) : fmtV (k + 1) = fmtV k ++ [(((k + 1 : Nat) : Int), noughts)] := by unfold fmtV; rw [List.range_succ, List.map_append]; rfl
theorem fmtL_eqV (log : Nat) : fmtL log = fmtV (log + 1) ++ [(0, slotB 1 1 log 0)] := rfl
theorem fmtV_len (k : Nat) : (fmtV k).length = k := by simp [fmtV]
theorem fmtV_pre (k m : Nat) (h : k <= m) : ∃ l, fmtV m = fmtV k ++ l := by
 induction m with
 | zero => obtain rfl : k = 0 := by omega
           exact ⟨[], rfl⟩
 | succ m ih =>
  by_cases e : k = m + 1
  ·subst e; exact ⟨[], by simp⟩
  ·obtain ⟨l, hl⟩ := ih (by omega)
   exact ⟨l ++ [(((m + 1 : Nat) : Int), noughts)], by rw [fmtV_succ, hl, List.append_assoc]⟩
theorem fmt_err (D : DevS) (log k : Nat) (h1 : 50 <= log) (h2 : (log : Int) <= (D.disk.length : Int) - 3) (hk : k <= log + 1) (he : (D.wrs (fmtV k)).1 ≠ 0) : D.fmt (log : Int) = D.wrs (fmtV k) := by
 obtain ⟨l, hl⟩ := fmtV_pre k (log + 1) hk
 have e : D.wrs (fmtL log) = D.wrs (fmtV k) := by rw [fmtL_eqV, hl, List.append_assoc, D.wrs_err _ _ he]
 unfold DevS.fmt
 rw [if_neg (by omega)]
 show D.stl (fmtL log) = _
 unfold DevS.stl
 rw [e, if_pos he]
theorem fmt_end (D : DevS) (log : Nat) (h1 : 50 <= log) (h2 : (log : Int) <= (D.disk.length : Int) - 3) (h0 : (D.wrs (fmtV (log + 1))).1 = 0) :
  D.fmt (log : Int) = if ((D.wrs (fmtV (log + 1))).2.wr 0 (slotB 1 1 log 0)).1 ≠ 0 then (D.wrs (fmtV (log + 1))).2.wr 0 (slotB 1 1 log 0) else ((D.wrs (fmtV (log + 1))).2.wr 0 (slotB 1 1 log 0)).2.fl := by
 have e : D.wrs (fmtL log) = (D.wrs (fmtV (log + 1))).2.wr 0 (slotB 1 1 log 0) := by rw [fmtL_eqV, D.wrs_snoc _ _ h0]
 unfold DevS.fmt
 rw [if_neg (by omega)]
 show D.stl (fmtL log) = _
 unfold DevS.stl
 rw [e]
section
variable {S S1 : Nat -> Prop} {w w1 w2 : World} {r : Nat} {D D1 D2 : DevS}
theorem RLeaves.then (h : RLeaves S w w1 r D1) (h2 : ∀ S1 : Nat -> Prop, RStands S1 w1 r D1 -> RLeaves S1 w1 w2 r D2) : RLeaves S w w2 r D2 := by
 obtain ⟨S1, a1, a2, a3⟩ := h
 obtain ⟨S2, b1, b2, b3⟩ := h2 S1 a2
 refine ⟨S2, fun k hk => ?_, b2, a3.trans b3 (fun i hi h1 => ?_)⟩
 ·rcases b1 k hk with h | h
  ·exact a1 k h
  ·exact .inr (Nat.le_trans a3.size h)
 ·rcases a1 i h1 with h | h
  ·exact h
  ·omega
theorem RLeaves.below (h : RLeaves S w w1 r D1) (hb : Below w1.heap.size w1 w2) : RLeaves S w w2 r D1 :=
 h.then fun S1 hs => ⟨S1, fun _ => .inl, hs.below hb, Only.of_below _ hb (Nat.le_refl _)⟩
theorem RLeaves.write (h : RLeaves S w w1 r D1) (i : Int) (s : ByteArray) (hp : D1.pend.length <= 1000000) {R : Int × DevS} (hR : D1.wr i s = R) : Calls Tryz.prog 29 #[.pointer (some ⟨r, 0, none⟩), .int .i64 i, .string s] w1 fun e w' => e = .returned (.int .i64 R.1) /\ RLeaves S w w' r R.2 := by
 subst hR
 obtain ⟨S1, a1, a2, a3⟩ := h
 refine (rwrite_any i s hp a2).mono fun e w' ⟨he, hl⟩ => ⟨he, ?_⟩
 obtain ⟨S2, b1, b2, b3⟩ := hl
 refine ⟨S2, fun k hk => ?_, b2, a3.trans b3 (fun i hi h1 => ?_)⟩
 ·rcases b1 k hk with h | h
  ·exact a1 k h
  ·exact .inr (Nat.le_trans a3.size h)
 ·rcases a1 i h1 with h | h
  ·exact h
  ·omega
theorem RLeaves.flush (h : RLeaves S w w1 r D1) (hp : D1.pend.length <= 1000000) {R : Int × DevS} (hR : D1.fl = R) : Calls Tryz.prog 137 #[.pointer (some ⟨r, 0, none⟩)] w1 fun e w' => e = .returned (.int .i64 R.1) /\ RLeaves S w w' r R.2 := by
 subst hR
 obtain ⟨S1, a1, a2, a3⟩ := h
 exact (rflush_any hp a2).mono fun e w' ⟨he, hs, ho⟩ => ⟨he, S1, a1, hs, a3.trans ho (fun i hi h1 => by rcases a1 i h1 with h | h; exact h; omega)⟩
set_option maxHeartbeats 2000000 in
theorem vformat_any (log : Int) (hd : RStands S w r D) (hp : D.pend.length <= 600000) (hlog : -9223372036854775808 <= log /\ log <= 9223372036854775807) :
  Calls Tryz.prog 76 #[.pointer (some ⟨r, 0, none⟩), .int .i64 log] w fun e w' => e = .returned (.int .i64 (D.fmt log).1) /\ RLeaves S w w' r (D.fmt log).2 := by
 have hn := hd.ok.few
 have hn1 := hd.ok.some
 have hL0 : RLeaves S w w r D := .mk hd (Only.refl _ _)
 obtain ⟨q, lcap, pv, href⟩ := id hd
 have c0 := href.c0
 clear href
 have HL0 := Lib.hid hL0
 clear hd hL0
 obtain ⟨n, hnn⟩ : ∃ n, D.disk.length = n := ⟨_, rfl⟩
 rw [hnn] at hn hn1 c0
 have HN := Lib.hid hnn
 clear hnn
 by_cases hbad : log < 50 \/ (n : Int) - 3 < log
 ·have HF : Hid (D.fmt log = (2, D)) := by show _ = _; unfold DevS.fmt; rw [HN.out, if_pos hbad]
  by_cases h5 : log < 50
  ·clear hbad
   go_enter Tryz.func76, Tryz.ntmps76
   go_wp2
   go_ret
   exact ⟨by rw [HF.out]; rfl, by rw [HF.out]; exact HL0.out⟩
  ·have h6 : (n : Int) - 3 < log := by omega
   clear hbad
   go_enter Tryz.func76, Tryz.ntmps76
   go_wp2
   go_ret
   exact ⟨by rw [HF.out]; rfl, by rw [HF.out]; exact HL0.out⟩
 ·obtain ⟨l, rfl⟩ : ∃ l : Nat, log = (l : Int) := ⟨log.toNat, by omega⟩
  have g1 : ¬ (l : Int) < 50 := by omega
  have g2 : ¬ (n : Int) - 3 < (l : Int) := by omega
  have HFE := Lib.hid (fun k hk => fmt_err D l k (by omega) (by rw [HN.out]; omega) hk)
  have HFX := Lib.hid (fmt_end D l (by omega) (by rw [HN.out]; omega))
  have CN := Lib.hid rnoughts_any
  have CT := Lib.hid (fun W => vtext_any 1 1 l 0 W (by omega) (by omega) (by omega) (by omega))
  have HSN := Lib.hid fmtV_succ
  obtain ⟨NT, hNT⟩ : ∃ T, noughts = T := ⟨_, rfl⟩
  rw [hNT] at CN HSN
  clear hNT hbad hlog
  have HPk : Hid (∀ k, k <= l + 1 -> (D.wrs (fmtV k)).2.pend.length <= 700000) := fun k hk => by have := D.wrs_len (fmtV k); rw [fmtV_len] at this; omega
  go_enter Tryz.func76, Tryz.ntmps76
  go_wp2_with fail
  go_loopw [5] (fun i wr => ∃ k : Nat, k <= l + 1 /\ i = .int .i64 ((k + 1 : Nat) : Int) /\ Hid ((D.wrs (fmtV k)).1 = 0) /\ Hid (RLeaves S w wr r (D.wrs (fmtV k)).2)) (fun i _ => l + 2 - (intOf i).toNat)
  case atStart => exact ⟨0, Nat.zero_le _, rfl, rfl, HL0⟩
  case round =>
   obtain ⟨k, hk, rfl, HE, HL⟩ := hrel
   obtain ⟨x, hx⟩ : ∃ x : Nat, k + 1 = x := ⟨_, rfl⟩
   by_cases hlt : k < l + 1
   ·have hp1 := HPk.out k (by omega)
    have HS1 : Hid (D.wrs (fmtV (k + 1)) = (D.wrs (fmtV k)).2.wr (x : Int) NT) := by
     show _ = _
     rw [HSN.out, D.wrs_snoc _ _ HE.out, <- hx]
    have HER := Lib.hid (HFE.out (k + 1) (by omega))
    obtain ⟨R, hR⟩ : ∃ R, (D.wrs (fmtV k)).2.wr (x : Int) NT = R := ⟨_, rfl⟩
    have CW : Hid (∀ W, Below wr.heap.size wr W -> Calls Tryz.prog 29 #[.pointer (some ⟨r, 0, none⟩), .int .i64 (x : Int), .string NT] W fun e w' => e = .returned (.int .i64 R.1) /\ RLeaves S w w' r R.2) := fun W hW => (HL.out.below hW).write _ _ (by omega) hR
    rw [hR] at HS1
    rw [HS1.out] at HER
    have hx1 : (x : Int) < 2 + (l : Int) := by omega
    clear hR
    rw [hx]
    obtain ⟨er, DR⟩ := R
    simp only at CW HER HS1
    have HXK := Lib.hid hx
    clear hx
    go_wp2_with fail
    refine (CN.out _).mono ?_
    rintro e w3 ⟨rfl, hb3⟩
    have CW3 := Lib.hid (CW.out _ hb3)
    clear hb3 CW
    go_wp2_with fail
    refine CW3.out.mono ?_
    rintro e w4 ⟨rfl, hl4⟩
    have HL4 := Lib.hid hl4
    clear hl4 CW3
    by_cases he : er = 0
    ·subst he
     go_wp2
     go_roundw
     case rel => exact ⟨k + 1, by omega, by rw [<- HXK.out]; go_num, by rw [HS1.out]; exact Lib.hid rfl, by rw [HS1.out]; exact HL4⟩
     case measure => simp [intOf]; omega
    ·have b : (er != 0) = true := by simp [he]
     have HF : Hid (D.fmt (l : Int) = (er, DR)) := HER.out he
     clear he
     go_wp2
     go_ret
     exact ⟨by rw [HF.out]; rfl, by rw [HF.out]; exact HL4.out⟩
   ·have hkl : k = l + 1 := by omega
    subst hkl
    have hp1 := HPk.out (l + 1) (by omega)
    have HFX1 := Lib.hid (HFX.out HE.out)
    obtain ⟨DK, hDK⟩ : ∃ X, (D.wrs (fmtV (l + 1))).2 = X := ⟨_, rfl⟩
    rw [hDK] at HFX1 HL hp1
    obtain ⟨tt, htt⟩ : ∃ t, slotB 1 1 l 0 = t := ⟨_, rfl⟩
    rw [htt] at HFX1 CT
    obtain ⟨R1, h1⟩ : ∃ R, DK.wr 0 tt = R := ⟨_, rfl⟩
    obtain ⟨R2, h2⟩ : ∃ R, R1.2.fl = R := ⟨_, rfl⟩
    have p1 : R1.2.pend.length <= 700001 := by rw [<- h1]; have := DK.wr_len 0 tt; omega
    rw [h1, h2] at HFX1
    have CW : Hid (∀ W, Below wr.heap.size wr W -> Calls Tryz.prog 29 #[.pointer (some ⟨r, 0, none⟩), .int .i64 0, .string tt] W fun e w' => e = .returned (.int .i64 R1.1) /\ RLeaves S w w' r R1.2) := fun W hW => (HL.out.below hW).write _ _ (by omega) h1
    have H2 := Lib.hid h2
    obtain ⟨e1, D1⟩ := R1
    obtain ⟨e2, D2⟩ := R2
    simp only at p1 HFX1 CW H2
    have hx1 : ¬ ((l + 1 + 1 : Nat) : Int) < 2 + (l : Int) := by omega
    obtain ⟨x, hx⟩ : ∃ x : Nat, l + 1 + 1 = x := ⟨_, rfl⟩
    rw [hx] at hx1
    rw [hx]
    clear hDK htt h1 h2 HFE HFX HPk HSN hx HL HE
    go_wp2_with fail
    refine (CT.out _).mono ?_
    rintro e w3 ⟨rfl, hb3⟩
    have CW3 := Lib.hid (CW.out _ hb3)
    clear hb3 CW
    go_wp2_with fail
    refine CW3.out.mono ?_
    rintro e w4 ⟨rfl, hl4⟩
    have HL4 := Lib.hid hl4
    clear hl4 CW3
    by_cases he : e1 = 0
    ·have HF : Hid (D.fmt (l : Int) = (e2, D2)) := by show _ = _; rw [HFX1.out, if_neg (by simpa using he)]
     have CF := Lib.hid (HL4.out.flush (by omega) H2.out)
     subst he
     go_wp2_with fail
     refine CF.out.mono ?_
     rintro e w5 ⟨rfl, hl5⟩
     have HL5 := Lib.hid hl5
     clear hl5 CF
     go_wp2
     go_ret
     exact ⟨by rw [HF.out]; rfl, by rw [HF.out]; exact HL5.out⟩
    ·have b : (e1 != 0) = true := by simp [he]
     have HF : Hid (D.fmt (l : Int) = (e1, D1)) := by show _ = _; rw [HFX1.out, if_pos he]
     clear he
     go_wp2
     go_ret
     exact ⟨by rw [HF.out]; rfl, by rw [HF.out]; exact HL4.out⟩
end
end Go.Proofs.YthambopnmhkeeaaGreat
