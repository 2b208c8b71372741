/- The document's own journal: what Home, place and Checkpoint answer and leave behind: the same. -/
import Derived.Test.YthambopnmhkeeaaGreatZJSafe4
import Derived.Test.YthambopnmhkeeaaGreatZRef3
import Derived.Test.YthambopnmhkeeaaGreatZRef6
import Derived.Test.YthambopnmhkeeaaGreatZJSlot
import Derived.Test.YthambopnmhkeeaaGreatZLOpen

namespace Go.Proofs.YthambopnmhkeeaaGreat
open Go.RowKit
section
variable {w : World} {a p : Nat} {J : JS} {n : Nat}
set_option maxRecDepth 100000 in
set_option maxHeartbeats 400000 in
theorem vplace_any (i : Nat) (h : Jr 136 w a p J) (ok : J.Ok n) (hn : n <= 4096) (hi : i <= 10000) :
    Calls Tryz.prog 181 #[.pointer (some ⟨a, 0, none⟩), .int .i64 (i : Int)] w fun e w' => e = .returned (.int .i64 ((2 + (J.p + i) % J.log : Nat) : Int)) /\ w' = w.drew := by
  have c3 := h.c3; have c4 := h.c4; clear h
  have h1 := ok.l1; have h2 := ok.l0; have h3 := ok.pl
  clear ok
  generalize J.log = l at *
  generalize J.p = q at *
  have w2 : ((q : Int) + (i : Int)).tmod (l : Int) = (((q + i) % l : Nat) : Int) := by rw [Int.tmod_eq_emod_of_nonneg (by omega)]; simp
  have w1 : IntKind.i64.wrap ((q : Int) + (i : Int)) = (q : Int) + (i : Int) := IntWalk.i64_in _ (by omega)
  have hm := Nat.mod_lt (q + i) (show 0 < l by omega)
  generalize (q + i) % l = r at *
  have w3 : IntKind.i64.wrap (r : Int) = (r : Int) := IntWalk.i64_in _ (by omega)
  have w4 : IntKind.i64.wrap (2 + (r : Int)) = 2 + (r : Int) := IntWalk.i64_in _ (by omega)
  have hl0 : ((l : Int) == 0) = false := beq_eq_false_iff_ne.2 (by omega)
  have hl1 : ((l : Int) == -1) = false := beq_eq_false_iff_ne.2 (by omega)
  have e' : ((2 + r : Nat) : Int) = 2 + (r : Int) := by omega
  rw [e']
  clear e'
  go_enter Tryz.func181, Tryz.ntmps181
  go_wp2
  go_region
  go_wp2
  go_ret
  exact ⟨rfl, rfl⟩
end

theorem stl1 (D : DevS) (i : Int) (s : ByteArray) : D.stl [(i, s)] = if (D.wr i s).1 ≠ 0 then D.wr i s else (D.wr i s).2.fl := by
  have e : D.wrs [(i, s)] = if (D.wr i s).1 ≠ 0 then D.wr i s else (0, (D.wr i s).2) := rfl
  unfold DevS.stl
  rw [e]
  by_cases h : (D.wr i s).1 ≠ 0
  . rw [if_pos h, if_pos h]
  . rw [if_neg h, if_neg h]
    rfl
def ckpR (J : JS) (R1 R2 R3 R4 : Int × DevS) : Int × DevS × JS :=
  if R1.1 ≠ 0 then (R1.1, R1.2, J) else if R2.1 ≠ 0 then (R2.1, R2.2, J) else if R3.1 ≠ 0 then (R3.1, R3.2, J) else if R4.1 ≠ 0 then (R4.1, R4.2, J) else (0, R4.2, J.next')
theorem ckp_calls (J : JS) (D : DevS) {R1 R2 R3 R4 : Int × DevS} (h1 : D.wr ((J.pos 0 : Nat) : Int) noughts = R1) (h2 : R1.2.fl = R2) (h3 : R2.2.wr ((1 - J.side : Nat) : Int) (slotB ((J.e + 1) % 18446744073709551616) J.next J.log (J.pos 0 - 2)) = R3) (h4 : R3.2.fl = R4) : J.ckp D = ckpR J R1 R2 R3 R4 := by
  unfold JS.ckp ckpR
  simp only [stl1, h1, h2]
  by_cases e1 : R1.1 ≠ 0
  . rw [if_pos e1, if_pos e1, if_pos e1]
  . rw [if_neg e1, if_neg e1]
    by_cases e2 : R2.1 ≠ 0
    . rw [if_pos e2, if_pos e2]
    . rw [if_neg e2, if_neg e2]
      simp only [h3, h4]
      by_cases e3 : R3.1 ≠ 0
      . rw [if_pos e3, if_pos e3, if_pos e3]
      . rw [if_neg e3, if_neg e3]

def RJLeaves (S : Nat -> Prop) (w w' : World) (a r : Nat) (D' : DevS) (J' : JS) : Prop :=
  ∃ S' : Nat -> Prop, (∀ k, S' k -> S k \/ w.heap.size <= k) /\ RStands S' w' r D' /\ Jr 136 w' a r J' /\ Only (fun k => S k \/ k = a) w w'
section
variable {S S1 : Nat -> Prop} {w w1 w2 : World} {a r : Nat} {J J1 J2 : JS} {D D1 D2 : DevS}
theorem RJLeaves.next (hS1 : ∀ k, S1 k -> S k \/ w.heap.size <= k) (ho : Only (fun k => S k \/ k = a) w w1) (h : RJLeaves S1 w1 w2 a r D2 J2) : RJLeaves S w w2 a r D2 J2 := by
  obtain ⟨S2, hS2, hs, hj, ho2⟩ := h
  refine ⟨S2, fun k hk => ?_, hs, hj, ho.trans ho2 (fun i hi h1 => ?_)⟩
  . rcases hS2 k hk with h | h
    . exact hS1 k h
    . exact .inr (Nat.le_trans ho.size h)
  . rcases h1 with h1 | h1
    . rcases hS1 i h1 with h | h
      . exact .inl h
      . omega
    . exact .inr h1
theorem RJLeaves.from (hb : Below w.heap.size w w1) (h : RJLeaves S w1 w2 a r D2 J2) : RJLeaves S w w2 a r D2 J2 :=
  RJLeaves.next (fun _ h => .inl h) (Only.of_below _ hb (Nat.le_refl _)) h
structure RJ (w0 w : World) (S : Nat -> Prop) (a r : Nat) (J : JS) (D : DevS) (T : Nat -> Prop) : Prop where
  jr : Jr 136 w a r J
  dev : RStands S w r D
  na : ¬ S a
  own : ∀ k, S k -> T k \/ w0.heap.size <= k
  only : Only (fun k => T k \/ k = a) w0 w
theorem RJ.start (hj : Jr 136 w a r J) (hd : RStands S w r D) (ha : ¬ S a) : RJ w w S a r J D S := ⟨hj, hd, ha, fun _ => .inl, Only.refl _ _⟩
variable {w0 : World} {T : Nat -> Prop}
theorem RJ.below (h : RJ w0 w S a r J D T) (hb : Below w.heap.size w w1) : RJ w0 w1 S a r J D T :=
  ⟨h.jr.below hb, h.dev.below hb, h.na, h.own, h.only.trans (Only.of_below (fun _ => False) hb (Nat.le_refl _)) (fun _ _ f => f.elim)⟩
theorem RJ.leaves (h : RJ w0 w S a r J D T) (hl : RLeaves S w w1 r D1) : ∃ S', RJ w0 w1 S' a r J D1 T := by
  obtain ⟨S', hS', hs, ho⟩ := hl
  have hla := h.jr.lt
  refine ⟨S', h.jr.only ho h.na, hs, fun hk => ?_, fun k hk => ?_, h.only.trans ho (fun i hi hs => ?_)⟩
  . rcases hS' a hk with h1 | h1
    . exact h.na h1
    . omega
  . rcases hS' k hk with h1 | h1
    . exact h.own k h1
    . exact .inr (Nat.le_trans h.only.size h1)
  . rcases h.own i hs with h1 | h1
    . exact .inl h1
    . omega
theorem RJ.ends (h : RJ w0 w S a r J D T) : RJLeaves T w0 w a r D J := ⟨S, h.own, h.dev, h.jr, h.only⟩
theorem RJ.put {J' : JS} {i : Nat} {v : Value} (h : RJ w0 w S a r J D T) (hc : (JCells r J).setIfInBounds i v = JCells r J') : RJ w0 (w.setCell ⟨a, i, none⟩ v) S a r J' D T := by
  have ho : Only (fun k => k = a) w (w.setCell ⟨a, i, none⟩ v) := (Only.refl (fun k => k = a) w).setCell (p := ⟨a, i, none⟩) (fun _ => rfl) _
  exact ⟨h.jr.put hc, h.dev.kept ho (fun k hk e => h.na (e ▸ hk)), h.na, h.own, h.only.trans ho (fun i _ hi => .inr hi)⟩
theorem RJ.write (h : RJ w0 w S a r J D T) (i : Int) (s : ByteArray) (hp : D.pend.length <= 900000) {R : Int × DevS} (hR : D.wr i s = R) : Calls Tryz.prog 29 #[.pointer (some ⟨r, 0, none⟩), .int .i64 i, .string s] w fun e w' => e = .returned (.int .i64 R.1) /\ ∃ S', RJ w0 w' S' a r J R.2 T := by
  subst hR
  exact (rwrite_any i s (by omega) h.dev).mono fun e w' ⟨he, hl⟩ => ⟨he, h.leaves hl⟩
theorem RJ.flush (h : RJ w0 w S a r J D T) (hp : D.pend.length <= 900000) {R : Int × DevS} (hR : D.fl = R) : Calls Tryz.prog 137 #[.pointer (some ⟨r, 0, none⟩)] w fun e w' => e = .returned (.int .i64 R.1) /\ ∃ S', RJ w0 w' S' a r J R.2 T := by
  subst hR
  exact (rflush_any (by omega) h.dev).mono fun e w' ⟨he, hs, ho⟩ => ⟨he, h.leaves (.mk hs ho)⟩
end

section
variable {S : Nat -> Prop} {w : World} {a r : Nat} {J : JS} {D : DevS}
set_option maxRecDepth 100000 in
set_option maxHeartbeats 4000000 in
theorem vckp_any (hj : Jr 136 w a r J) (hd : RStands S w r D) (ha : ¬ S a) (ok : J.Ok D.disk.length) (hp : D.pend.length <= 800000) :
    Calls Tryz.prog 141 #[.pointer (some ⟨a, 0, none⟩)] w fun e w' => e = .returned (.int .i64 (J.ckp D).1) /\ RJLeaves S w w' a r (J.ckp D).2.1 (J.ckp D).2.2 := by
  have hn := hd.ok.few
  have HJ0 := Lib.hid (RJ.start hj hd ha)
  have CP : Hid (∀ W, Below w.heap.size w W -> Calls Tryz.prog 181 #[.pointer (some ⟨a, 0, none⟩), .int .i64 (J.full : Int)] W fun e w' => e = .returned (.int .i64 ((J.pos 0 : Nat) : Int)) /\ w' = W.drew) := fun W hW => vplace_any J.full (hj.below hW) ok hn (by have := ok.fu; have := ok.l1; omega)
  have c0 := hj.c0; have c7 := hj.c7
  obtain ⟨R1, h1⟩ : ∃ R, D.wr ((J.pos 0 : Nat) : Int) noughts = R := ⟨_, rfl⟩
  obtain ⟨R2, h2⟩ : ∃ R, R1.2.fl = R := ⟨_, rfl⟩
  obtain ⟨R3, h3⟩ : ∃ R, R2.2.wr ((1 - J.side : Nat) : Int) (slotB ((J.e + 1) % 18446744073709551616) J.next J.log (J.pos 0 - 2)) = R := ⟨_, rfl⟩
  obtain ⟨R4, h4⟩ : ∃ R, R3.2.fl = R := ⟨_, rfl⟩
  have HC := Lib.hid (ckp_calls J D h1 h2 h3 h4)
  have p1 : R1.2.pend.length <= 800001 := by rw [<- h1]; have := D.wr_len ((J.pos 0 : Nat) : Int) noughts; omega
  have p2 : R2.2.pend.length <= 800001 := by rw [<- h2]; have := R1.2.fl_len; omega
  have p3 : R3.2.pend.length <= 800002 := by rw [<- h3]; have := R2.2.wr_len ((1 - J.side : Nat) : Int) (slotB ((J.e + 1) % 18446744073709551616) J.next J.log (J.pos 0 - 2)); omega
  have CW : Hid (∀ W, Below w.heap.size w W -> Calls Tryz.prog 29 #[.pointer (some ⟨r, 0, none⟩), .int .i64 ((J.pos 0 : Nat) : Int), .string noughts] W fun e w' => e = .returned (.int .i64 R1.1) /\ ∃ S', RJ w w' S' a r J R1.2 S) := fun W hW => (HJ0.out.below hW).write _ _ (by omega) h1
  have H2 := Lib.hid h2; have H3 := Lib.hid h3; have H4 := Lib.hid h4
  rw [HC.out]
  have hsi := ok.si; have hl1 := ok.l1; have hl0 := ok.l0; have hfu := ok.fu; have hpl := ok.pl
  have hps := ok.pos_lt 0
  have HOK := Lib.hid ok
  have hal := hj.lt
  have CN := Lib.hid rnoughts_any
  clear h1 h2 h3 h4 HC hj hd ha ok
  have hq0 : J.pos 0 = 2 + (J.p + J.full) % J.log := rfl
  obtain ⟨q, hq⟩ : ∃ q, (J.p + J.full) % J.log = q := ⟨_, rfl⟩
  rw [hq] at hq0
  rw [hq0] at CP CW H3 hps
  rw [Nat.add_sub_cancel_left] at H3
  obtain ⟨E, hE⟩ : ∃ x : Nat, (J.e + 1) % 18446744073709551616 = x := ⟨_, rfl⟩
  rw [hE] at H3
  obtain ⟨NT, hNT⟩ : ∃ T, noughts = T := ⟨_, rfl⟩
  rw [hNT] at CW CN
  clear hNT
  have HQ := Lib.hid hq; have HQ0 := Lib.hid hq0; have HE := Lib.hid hE
  clear hq hq0 hE
  obtain ⟨ps, hps2⟩ : ∃ ps : Int, ((2 + q : Nat) : Int) = ps := ⟨_, rfl⟩
  rw [hps2] at CP CW
  clear hps2
  obtain ⟨e1, D1⟩ := R1
  go_enter Tryz.func141, Tryz.ntmps141
  go_wp2_with fail
  go_region_held3 (fun W => W.cell? ⟨a, 0, none⟩ = some (.pointer (some ⟨r, 0, none⟩)) /\ W.cell? ⟨a, 7, none⟩ = some (.int .i64 (J.full : Int)))
    (first | exact ⟨c0, c7⟩ | assumption)
    (first
      | (go_at_call 181; refine (CP.out _ ((Below.refl _ _).drew)).mono ?_; rintro e w1 ⟨rfl, rfl⟩)
      | (go_at_call 68; refine (CN.out _).mono ?_; rintro e w2 ⟨rfl, hb2'⟩; have hb2 : Below w.heap.size w w2 := Fr.below_predrew (Fr.below_predrew hb2'); have hh2 : w2.cell? ⟨a, 0, none⟩ = some (.pointer (some ⟨r, 0, none⟩)) /\ w2.cell? ⟨a, 7, none⟩ = some (.int .i64 (J.full : Int)) := ⟨(hb2.cell (p := ⟨a, 0, none⟩) hal).trans c0, (hb2.cell (p := ⟨a, 7, none⟩) hal).trans c7⟩)
      | (go_at_call 29; refine (CW.out _ hb2).mono ?_; rintro e w3 ⟨rfl, S3, hr3⟩; have hh3 : w3.cell? ⟨a, 0, none⟩ = some (.pointer (some ⟨r, 0, none⟩)) /\ w3.cell? ⟨a, 7, none⟩ = some (.int .i64 (J.full : Int)) := ⟨hr3.jr.c0, hr3.jr.c7⟩))
  have HR3 := Lib.hid hr3
  clear hr3 hh3 hh2 hb2' hb2 CP CW CN c0 c7
  obtain ⟨e2, D2⟩ := R2
  obtain ⟨e3, D3⟩ := R3
  obtain ⟨e4, D4⟩ := R4
  simp only at p1 p2 p3 H2 H3 H4 HR3
  by_cases he1 : e1 = 0
  . have b1 : (e1 != 0) = false := by simp [he1]
    have CF := Lib.hid (HR3.out.flush (by omega) H2.out)
    have c0 := HR3.out.jr.c0
    go_wp2_with fail
    refine CF.out.mono ?_
    rintro e w4 ⟨rfl, S4, hr4⟩
    have HR4 := Lib.hid hr4
    have HK4 : Hid (w4.cell? ⟨a, 0, none⟩ = some (.pointer (some ⟨r, 0, none⟩))) := hr4.jr.c0
    clear hr4 CF c0 HR3
    by_cases he2 : e2 = 0
    . have b2 : (e2 != 0) = false := by simp [he2]
      have c1 := HR4.out.jr.c1; have c3 := HR4.out.jr.c3; have c4 := HR4.out.jr.c4; have c6 := HR4.out.jr.c6; have c7 := HR4.out.jr.c7
      have hl4 := HR4.out.jr.lt
      have hne : w4.heap.size ≠ a := by omega
      have wE : IntKind.u64.wrap ((J.e : Int) + 1) = (E : Int) := by rw [<- HE.out]; simp [IntKind.wrap, IntKind.bits, IntKind.signed]
      have wm : ((J.p : Int) + (J.full : Int)).tmod (J.log : Int) = (q : Int) := by rw [Int.tmod_eq_emod_of_nonneg (by omega), <- HQ.out]; simp
      have hl0' : ((J.log : Int) == 0) = false := beq_eq_false_iff_ne.2 (by omega)
      have hl1' : ((J.log : Int) == -1) = false := beq_eq_false_iff_ne.2 (by omega)
      have wq : IntKind.i64.wrap (q : Int) = (q : Int) := IntWalk.i64_in _ (by omega)
      have ws : IntKind.i64.wrap ((J.p : Int) + (J.full : Int)) = (J.p : Int) + (J.full : Int) := IntWalk.i64_in _ (by omega)
      go_wp2_with fail
      have hal4 : ∀ (o : Obj) (i : Nat), (w4.drew.alloc o).cell? ⟨a, i, none⟩ = w4.cell? ⟨a, i, none⟩ := fun o i => (((Below.refl w4.heap.size w4).drew.alloc (Nat.le_refl _) o).cell (p := ⟨a, i, none⟩) hl4)
      have HAL := Lib.hid hal4; clear hal4
      have wm2 : ((J.p : Int) + (J.full : Int)) % (J.log : Int) = (q : Int) := by rw [<- HQ.out]; simp
      have hl2' : ¬ ((J.log : Int) = 0) := by omega
      have hl3' : ¬ ((J.log : Int) = -1) := by omega
      have hl4' : ¬ (J.log = 0) := by omega
      have hl5' : (J.log == 0) = false := beq_eq_false_iff_ne.2 hl4'
      go_region_held3 (fun W => W.cell? ⟨a, 1, none⟩ = some (.int .u64 (J.e : Int)) /\ W.cell? ⟨a, 3, none⟩ = some (.int .i64 (J.log : Int)) /\ W.cell? ⟨a, 4, none⟩ = some (.int .i64 (J.p : Int)) /\ W.cell? ⟨a, 6, none⟩ = some (.int .u64 (J.next : Int)) /\ W.cell? ⟨a, 7, none⟩ = some (.int .i64 (J.full : Int)))
        (first | exact ⟨c1, c3, c4, c6, c7⟩ | exact ⟨(HAL.out _ 1).trans c1, (HAL.out _ 3).trans c3, (HAL.out _ 4).trans c4, (HAL.out _ 6).trans c6, (HAL.out _ 7).trans c7⟩ | assumption)
        (fail)
      all_goals
        rename_i hHeld4
        clear hHeld4 HAL wm2 hl2' hl3' hl4' hl5'
        obtain ⟨X, hX⟩ : ∃ X, (w4.alloc (.cells #[.int .u64 (E : Int), .int .u64 (J.next : Int), .int .i64 (J.log : Int), .int .i64 (q : Int)] 134)).drew = X := ⟨_, rfl⟩
        rw [hX]
        have hbX : Below w4.heap.size w4 X := by rw [<- hX]; exact ((Below.refl _ _).alloc (Nat.le_refl _) _).drew
        have hxh : X.heap[w4.heap.size]? = some (.cells #[.int .u64 (E : Int), .int .u64 (J.next : Int), .int .i64 (J.log : Int), .int .i64 (q : Int)] 134 (0, 0)) := by rw [<- hX]; exact heap_alloc_new ..
        obtain ⟨g, hg⟩ : ∃ g, w4.heap.size = g := ⟨_, rfl⟩
        have hrX := HR4.out.below hbX
        have hgS : ¬ S4 g := fun h => by have := HR4.out.dev.lt g h; omega
        have hgl : g < X.heap.size := by rw [<- hg]; exact (Array.getElem?_eq_some_iff.1 hxh).1
        rw [hg] at hxh hne ⊢
        have HXH := Lib.hid hxh; have HRX := Lib.hid hrX; have HGS := Lib.hid hgS
        have hga : g ≠ a := hne
        clear hX hg hbX hrX hgS c1 c3 c4 c6 c7 wE wm wq ws hl0' hl1' hne HR4 HK4
        obtain ⟨tt, htt⟩ : ∃ t, slotB E J.next J.log q = t := ⟨_, rfl⟩
        have CT : Hid (∀ W, Calls Tryz.prog 136 #[.agg #[.int .u64 (E : Int), .int .u64 (J.next : Int), .int .i64 (J.log : Int), .int .i64 (q : Int)]] W fun r w' => r = .returned (.string tt) /\ Below W.heap.size W w') := fun W => by
          rw [<- htt]; exact vtext_any E J.next J.log q W (by rw [<- HE.out]; exact Nat.mod_lt _ (by omega)) HOK.out.n64 (by omega) (by omega)
        rw [htt] at H3
        clear htt
        obtain ⟨sd, hsd⟩ : ∃ sd : Nat, 1 - J.side = sd := ⟨_, rfl⟩
        rw [hsd] at H3
        have w1s : IntKind.i64.wrap ((1 : Int) - (J.side : Int)) = (sd : Int) := by rw [show (1 : Int) - (J.side : Int) = (sd : Int) by omega]; exact IntWalk.i64_in _ (by omega)
        have HSD := Lib.hid hsd
        have HSD1 : Hid ((1 : Int) - (J.side : Int) = (sd : Int)) := by show _ = _; omega
        clear hsd
        have HKX : Hid (∀ W : World, W.heap[g]? = some (.cells #[.int .u64 (E : Int), .int .u64 (J.next : Int), .int .i64 (J.log : Int), .int .i64 (q : Int)] 134 (0, 0)) -> Jr 136 W a r J -> W.cell? ⟨a, 0, none⟩ = some (.pointer (some ⟨r, 0, none⟩)) /\ W.cell? ⟨a, 5, none⟩ = some (.int .i64 (J.side : Int)) /\ W.cell? ⟨g, 0, none⟩ = some (.int .u64 (E : Int)) /\ W.cell? ⟨g, 1, none⟩ = some (.int .u64 (J.next : Int)) /\ W.cell? ⟨g, 2, none⟩ = some (.int .i64 (J.log : Int)) /\ W.cell? ⟨g, 3, none⟩ = some (.int .i64 (q : Int))) := fun W h1 h2 =>
          ⟨h2.c0, h2.c5, by rw [cell_at h1]; rfl, by rw [cell_at h1]; rfl, by rw [cell_at h1]; rfl, by rw [cell_at h1]; rfl⟩
        have CW3 : Hid (∀ W, Below X.heap.size X W -> Calls Tryz.prog 29 #[.pointer (some ⟨r, 0, none⟩), .int .i64 (sd : Int), .string tt] W fun e w' => e = .returned (.int .i64 e3) /\ (∃ S', RJ w w' S' a r J D3 S /\ ¬ S' g) /\ w'.heap[g]? = some (.cells #[.int .u64 (E : Int), .int .u64 (J.next : Int), .int .i64 (J.log : Int), .int .i64 (q : Int)] 134 (0, 0))) := fun W hW => by
          have h2 := HRX.out.below hW
          have := rwrite_any (sd : Int) tt (by omega) h2.dev
          rw [H3.out] at this
          refine this.mono fun e w' ⟨he, hl⟩ => ?_
          obtain ⟨S', j1, j2, j3⟩ := hl
          have hgW : g < W.heap.size := Nat.lt_of_lt_of_le hgl hW.size
          obtain ⟨S'', hq⟩ : ∃ S'', RJ w w' S'' a r J D3 S /\ S'' = S' := by
            have hla := h2.jr.lt
            refine ⟨S', ⟨h2.jr.only j3 h2.na, j2, fun hk => ?_, fun k hk => ?_, h2.only.trans j3 (fun i hi hs => ?_)⟩, rfl⟩
            . rcases j1 a hk with h1 | h1
              . exact h2.na h1
              . omega
            . rcases j1 k hk with h1 | h1
              . exact h2.own k h1
              . exact .inr (Nat.le_trans h2.only.size h1)
            . rcases h2.own i hs with h1 | h1
              . exact .inl h1
              . omega
          refine ⟨he, ⟨S'', hq.1, fun hk => ?_⟩, ?_⟩
          . rw [hq.2] at hk
            rcases j1 g hk with h1 | h1
            . exact HGS.out h1
            . omega
          . rw [j3.block g hgW HGS.out, hW.block g hgl]; exact HXH.out
        obtain ⟨x0, x5, y0, y1, y2, y3⟩ := HKX.out X HXH.out HRX.out.jr
        go_wp2_with fail
        go_region_held3 (fun W => W.cell? ⟨a, 0, none⟩ = some (.pointer (some ⟨r, 0, none⟩)) /\ W.cell? ⟨a, 5, none⟩ = some (.int .i64 (J.side : Int)) /\ W.cell? ⟨g, 0, none⟩ = some (.int .u64 (E : Int)) /\ W.cell? ⟨g, 1, none⟩ = some (.int .u64 (J.next : Int)) /\ W.cell? ⟨g, 2, none⟩ = some (.int .i64 (J.log : Int)) /\ W.cell? ⟨g, 3, none⟩ = some (.int .i64 (q : Int)))
          (first | exact ⟨x0, x5, y0, y1, y2, y3⟩ | assumption)
          (first
            | (go_at_call 136; refine (CT.out _).mono ?_; rintro e w5 ⟨rfl, hb5'⟩; have hb5 : Below X.heap.size X w5 := Fr.below_predrew hb5'; have hh5 := HKX.out w5 (by rw [hb5.block g hgl]; exact HXH.out) (HRX.out.jr.below hb5))
            | (go_at_call 29; (with_reducible refine (CW3.out _ hb5).mono ?_); rintro e w6 ⟨rfl, ⟨S6, hr6, hg6⟩, hx6⟩; have hh6 := HKX.out w6 hx6 hr6.jr))
        have HR6 := Lib.hid hr6; have HG6 := Lib.hid hg6; have HX6 := Lib.hid hx6
        have c0 := hr6.jr.c0
        clear hr6 hg6 hx6 hh6 hh5 hb5 hb5' CW3 CT x0 x5 y0 y1 y2 y3 HKX HRX HXH w1s
        by_cases he3 : e3 = 0
        . have b3 : (e3 != 0) = false := by simp [he3]
          have CF : Hid (Calls Tryz.prog 137 #[.pointer (some ⟨r, 0, none⟩)] w6 fun e w' => e = .returned (.int .i64 e4) /\ (∃ S', RJ w w' S' a r J D4 S) /\ w'.heap[g]? = some (.cells #[.int .u64 (E : Int), .int .u64 (J.next : Int), .int .i64 (J.log : Int), .int .i64 (q : Int)] 134 (0, 0))) := by
            have := rflush_any (by omega) HR6.out.dev
            rw [H4.out] at this
            refine this.mono fun e w' ⟨he, hs, ho⟩ => ⟨he, HR6.out.leaves (.mk hs ho), ?_⟩
            rw [ho.block g (Array.getElem?_eq_some_iff.1 HX6.out).1 HG6.out]; exact HX6.out
          go_wp2_with fail
          refine CF.out.mono ?_
          rintro e w7 ⟨rfl, ⟨S7, hr7⟩, hx7⟩
          have HR7 := Lib.hid hr7
          have hj7 := hr7.jr
          have y0 : w7.cell? ⟨g, 0, none⟩ = some (.int .u64 (E : Int)) := by rw [cell_at hx7]; rfl
          have y1 : w7.cell? ⟨g, 1, none⟩ = some (.int .u64 (J.next : Int)) := by rw [cell_at hx7]; rfl
          have y2 : w7.cell? ⟨g, 2, none⟩ = some (.int .i64 (J.log : Int)) := by rw [cell_at hx7]; rfl
          have y3 : w7.cell? ⟨g, 3, none⟩ = some (.int .i64 (q : Int)) := by rw [cell_at hx7]; rfl
          have a1 := hj7.c1; have a2 := hj7.c2; have a3 := hj7.c3; have a4 := hj7.c4; have a5 := hj7.c5; have a7 := hj7.c7
          have f1 := hj7.f 1; have f2 := hj7.f 2; have f3 := hj7.f 3; have f4 := hj7.f 4; have f5 := hj7.f 5; have f7 := hj7.f 7
          clear hr7 hj7 hx7 CF c0 HR6 HX6
          by_cases he4 : e4 = 0
          . have b4 : (e4 != 0) = false := by simp [he4]
            have HC : Hid (ckpR J (e1, D1) (e2, D2) (e3, D3) (e4, D4) = (0, D4, J.next')) := by
              show ckpR _ _ _ _ _ = _; subst he1 he2 he3 he4; rfl
            have HF : Hid (RJ w ((((((w7.setCell ⟨a, 1, none⟩ (.int .u64 (E : Int))).setCell ⟨a, 2, none⟩ (.int .u64 (J.next : Int))).setCell ⟨a, 3, none⟩ (.int .i64 (J.log : Int))).setCell ⟨a, 4, none⟩ (.int .i64 (q : Int))).setCell ⟨a, 5, none⟩ (.int .i64 (sd : Int))).setCell ⟨a, 7, none⟩ (.int .i64 0)) S7 a r J.next' D4 S) := by
              have e0 : J.next' = ⟨E, J.next, J.log, q, sd, J.next, 0⟩ := by
                unfold JS.next'
                rw [HE.out, HSD.out, HQ0.out, Nat.add_sub_cancel_left]
              rw [e0]
              have k1 := HR7.out.put (J' := { J with e := E }) (i := 1) (v := .int .u64 (E : Int)) (by simp [JCells])
              have k2 := k1.put (J' := { J with e := E, s := J.next }) (i := 2) (v := .int .u64 (J.next : Int)) (by simp [JCells])
              have k3 := k2.put (J' := { J with e := E, s := J.next }) (i := 3) (v := .int .i64 (J.log : Int)) (by simp [JCells])
              have k4 := k3.put (J' := { J with e := E, s := J.next, p := q }) (i := 4) (v := .int .i64 (q : Int)) (by simp [JCells])
              have k5 := k4.put (J' := { J with e := E, s := J.next, p := q, side := sd }) (i := 5) (v := .int .i64 (sd : Int)) (by simp [JCells])
              exact k5.put (J' := ⟨E, J.next, J.log, q, sd, J.next, 0⟩) (i := 7) (v := .int .i64 0) (by simp [JCells])
            have hsd1 := HSD1.out
            go_wp2
            go_ret
            exact ⟨by rw [HC.out]; rfl, by rw [HC.out]; exact HF.out.ends⟩
          . have b4 : (e4 != 0) = true := by simp [he4]
            have HC : Hid (ckpR J (e1, D1) (e2, D2) (e3, D3) (e4, D4) = (e4, D4, J)) := by
              subst he1 he2 he3; show ckpR _ _ _ _ _ = _; unfold ckpR; simp [he4]
            clear he4
            go_wp2
            go_ret
            exact ⟨by rw [HC.out]; rfl, by rw [HC.out]; exact HR7.out.ends⟩
        . have b3 : (e3 != 0) = true := by simp [he3]
          have HC : Hid (ckpR J (e1, D1) (e2, D2) (e3, D3) (e4, D4) = (e3, D3, J)) := by
            subst he1 he2; show ckpR _ _ _ _ _ = _; unfold ckpR; simp [he3]
          clear he3
          go_wp2
          go_ret
          exact ⟨by rw [HC.out]; rfl, by rw [HC.out]; exact HR6.out.ends⟩
    . have b2 : (e2 != 0) = true := by simp [he2]
      have HC : Hid (ckpR J (e1, D1) (e2, D2) (e3, D3) (e4, D4) = (e2, D2, J)) := by
        subst he1; show ckpR _ _ _ _ _ = _; unfold ckpR; simp [he2]
      clear he2
      go_wp2
      go_ret
      exact ⟨by rw [HC.out]; rfl, by rw [HC.out]; exact HR4.out.ends⟩
  . have b1 : (e1 != 0) = true := by simp [he1]
    have HC : Hid (ckpR J (e1, D1) (e2, D2) (e3, D3) (e4, D4) = (e1, D1, J)) := by
      show ckpR _ _ _ _ _ = _; unfold ckpR; simp [he1]
    clear he1
    go_wp2
    go_ret
    exact ⟨by rw [HC.out]; rfl, by rw [HC.out]; exact HR3.out.ends⟩
end
end Go.Proofs.YthambopnmhkeeaaGreat
/- The document's frame and the program's, in plain lists: the same. -/
namespace Go.Proofs.YthambopnmhkeeaaGreat
open Go.RowKit
open Fr (nmAt unp unp_cons formB formB_iff sumB headB headB_iff blocksOf)

def JS.readL (J : JS) (D : DevS) (m : Nat) : List ByteArray := (List.range m).map fun i => D.rdB (J.pos i)
theorem readL_succ (J : JS) (D : DevS) (m : Nat) : J.readL D (m + 1) = J.readL D m ++ [D.rdB (J.pos m)] := by unfold JS.readL; rw [List.range_succ, List.map_append]; rfl
theorem readL_len (J : JS) (D : DevS) (m : Nat) : (J.readL D m).length = m := by simp [JS.readL]
def tailL (J : JS) (D : DevS) (m : Nat) : List ByteArray := (List.range m).map fun i => D.rdB (J.pos (i + 1))
theorem readL_cons (J : JS) (D : DevS) (m : Nat) : J.readL D (m + 1) = D.rdB (J.pos 0) :: tailL J D m := by
  unfold JS.readL tailL; rw [List.range_succ_eq_map]; simp
theorem tailL_take (J : JS) (D : DevS) (k m : Nat) (h : k <= m) : (tailL J D m).take k = tailL J D k := by
  unfold tailL
  rw [<- List.map_take, List.take_range, Nat.min_eq_left h]
theorem tailL_len (J : JS) (D : DevS) (m : Nat) : (tailL J D m).length = m := by simp [tailL]
theorem unp_more (s : ByteArray) (T : List ByteArray) (k : Nat) (h : nmAt s.data.toList 12 <= k) (hk : k <= T.length) : unp (s :: T.take k) = unp (s :: T) := by
  have e : (T.take k).take (nmAt s.data.toList 12) = T.take (nmAt s.data.toList 12) := by rw [List.take_take, Nat.min_eq_left h]
  have hf : formB s (T.take k) = formB s T := by
    unfold formB
    rw [e, List.length_take, Nat.min_eq_left hk]
    have a1 : decide (nmAt s.data.toList 12 <= k) = true := decide_eq_true h
    have a2 : decide (nmAt s.data.toList 12 <= T.length) = true := decide_eq_true (by omega)
    rw [a1, a2]
  have hs : sumB s (T.take k) = sumB s T := by unfold sumB; rw [e]
  rw [unp_cons, unp_cons, hf, hs, e]
def fineR (J : JS) (n : Nat) (R : Nat × List (Int × ByteArray) × Nat) : Prop := R.2.2 = 0 /\ R.1 = J.next /\ ∀ x ∈ R.2.1, (J.home : Int) <= x.1 /\ x.1 < (n : Int)
instance (J : JS) (n : Nat) (R : Nat × List (Int × ByteArray) × Nat) : Decidable (fineR J n R) := by unfold fineR; infer_instance
theorem unp_ok (s : ByteArray) (T : List ByteArray) (h : (unp (s :: T)).2.2 = 0) : 1 <= (unp (s :: T)).2.1.length /\ (unp (s :: T)).2.1.length <= 48 /\ ∀ x ∈ (unp (s :: T)).2.1, x.2.size = 256 := by
  rw [unp_cons] at h ⊢
  by_cases h1 : formB s T = true
  . rw [if_pos h1] at h ⊢
    by_cases h2 : sumB s T = true
    . rw [if_pos h2]
      obtain ⟨f1, f2, f3⟩ := (formB_iff s T).1 h1
      obtain ⟨_, _, _, g1, g2, _⟩ := (headB_iff _).1 f1
      have hb : (blocksOf s.data.toList).length = nmAt s.data.toList 12 := by simp [blocksOf]
      refine ⟨?_, ?_, fun x hx => f3 x.2 ?_⟩
      . simp only [List.length_zip, hb, List.length_take]; omega
      . simp only [List.length_zip, hb, List.length_take]; omega
      . exact (List.of_mem_zip (a := x.1) (b := x.2) hx).2
    . rw [if_neg h2] at h; cases h
  . rw [if_neg h1] at h; cases h
theorem frame_same (J : JS) (D : DevS) : J.frameOf D = if fineR J D.disk.length (unp (J.readL D (min J.left 49))) then some (unp (J.readL D (min J.left 49))).2.1 else none := by
  by_cases h0 : J.left = 0
  . unfold JS.frameOf
    rw [if_neg (by rintro ⟨_, h, _⟩; omega), h0, if_neg]
    rintro ⟨h, _⟩
    cases h
  . obtain ⟨m, hm⟩ : ∃ m, min J.left 49 = m + 1 := ⟨min J.left 49 - 1, by omega⟩
    rw [hm, readL_cons]
    by_cases hh : headB (D.rdB (J.pos 0)).data.toList = true
    . obtain ⟨_, _, _, g1, g2, _⟩ := (headB_iff _).1 hh
      by_cases hl : nmAt (D.rdB (J.pos 0)).data.toList 12 + 1 <= J.left
      . have hfa : J.frameAt D = D.rdB (J.pos 0) :: (tailL J D m).take (nmAt (D.rdB (J.pos 0)).data.toList 12) := by
          rw [tailL_take J D _ m (by omega)]; rfl
        have hu : unp (J.frameAt D) = unp (D.rdB (J.pos 0) :: tailL J D m) := by
          rw [hfa, unp_more _ _ _ (Nat.le_refl _) (by rw [tailL_len]; omega)]
        unfold JS.frameOf
        rw [hu]
        have hiff : (headB (D.rdB (J.pos 0)).data.toList = true /\ nmAt (D.rdB (J.pos 0)).data.toList 12 + 1 <= J.left /\ (unp (D.rdB (J.pos 0) :: tailL J D m)).2.2 = 0 /\ (unp (D.rdB (J.pos 0) :: tailL J D m)).1 = J.next /\ J.chk D.disk.length (unp (D.rdB (J.pos 0) :: tailL J D m)).2.1 = 0) ↔ fineR J D.disk.length (unp (D.rdB (J.pos 0) :: tailL J D m)) := by
          constructor
          . rintro ⟨_, _, a, b, c⟩
            exact ⟨a, b, fun x hx => by obtain ⟨c1, c2, _⟩ := ((J.chk_ok _ _).1 c).2.2 x hx; exact ⟨c1, c2⟩⟩
          . rintro ⟨a, b, c⟩
            obtain ⟨o1, o2, o3⟩ := unp_ok _ _ a
            exact ⟨hh, hl, a, b, (J.chk_ok _ _).2 ⟨o1, o2, fun x hx => ⟨(c x hx).1, (c x hx).2, o3 x hx⟩⟩⟩
        by_cases hc : fineR J D.disk.length (unp (D.rdB (J.pos 0) :: tailL J D m))
        . rw [if_pos hc, if_pos (hiff.2 hc)]
        . rw [if_neg hc, if_neg (fun h => hc (hiff.1 h))]
      . unfold JS.frameOf
        rw [if_neg (by rintro ⟨_, h, _⟩; exact hl h), if_neg]
        rintro ⟨h, _⟩
        rw [unp_cons, if_neg (by rw [formB_iff, tailL_len]; rintro ⟨_, h, _⟩; omega)] at h
        cases h
    . unfold JS.frameOf
      rw [if_neg (by rintro ⟨h, _⟩; exact hh h), if_neg]
      rintro ⟨h, _⟩
      rw [unp_cons, if_neg (by rw [formB_iff]; rintro ⟨h, _⟩; exact hh h)] at h
      cases h
end Go.Proofs.YthambopnmhkeeaaGreat
