/- JournalKeeps: the walk. -/
import Derived.Test.YtodfcbpimglhdaaZLKeepM
import Derived.Test.YtodfcbpimglhdaaZLOpenA
import Derived.Deep.CutBlock
import Derived.IntWalk
import Derived.Deep.DeepCutAuto

namespace Go.Proofs.Ytodfcbpimglhdaa
open Go.RowKit
open Fr (SlW OwnW OwnS SlS one_cell one_one add_at)

/-- An append of a row of texts of one's own onto a row of one's own. -/
theorem wpList_append_rows {w : World} {ops : Array Oper} {rest : List Oper} {o : Oper} {a : Act} {Q : Exit → Act → World → Prop} (hgd : o.guard = none) (s x : Operand)
    (ho : o.op = .call { callee := .builtin .append, args := #[s, x], argTypes := #[22, 22] }) (B : Nat) (v : Value) (M : List ByteArray) (hs : a.eval s = v) (hown : OwnS B w v M)
    (xv : Value) (D : List ByteArray) (hx : a.eval x = xv) (hsl : SlS w xv D) (hnil : ∀ n c, xv = .slice none n c → c = 0) (hlen : M.length + D.length ≤ 1000) (hB : B ≤ w.heap.size)
    (h : ∀ v' w', OwnS B w' v' (M ++ D) → w.grownBy w' v.ownBlock → wpList Try.prog ops Q rest (a.put o.dst v') w') : wpList Try.prog ops Q (o :: rest) a w := by
  obtain ⟨i0, hi, hz0, hz1, hz2⟩ := info_parts Try.infoS
  obtain ⟨ao, c, rfl, hc, hh⟩ := hsl
  cases ao with
  | none =>
    have e : D = [] := by
      rcases hh with e | ⟨b, off, e, _⟩
      · exact e
      · cases e
    subst e
    obtain rfl := hnil _ _ rfl
    refine wpList_append_own_none hgd s x 22 ho B 9 i0 1 Try.underlying22 hi v M.length (M.map Value.string) hs hown hx ?_
    refine h v w (by rw [List.append_nil]; exact hown) ⟨rfl, rfl, rfl, Nat.le_refl _, fun _ _ _ => rfl⟩
  | some ad =>
    refine wpList_append_own w hgd s x 22 ho B 9 i0 _ 1 16 Try.underlying22 hi hz0 hz1 hz2 rfl (by decide) v M.length (M.map Value.string) hs hown ad D.length c (D.map Value.string) hx (by simp) ?_ ?_ (by unfold maxLen; omega) (by omega) hB ?_
    · intro j u hu
      have hj : j < D.length := by
        have := (List.getElem?_eq_some_iff.1 hu).1
        simpa using this
      rcases hh with e | ⟨b, off, e, _, hw⟩
      · subst e; simp at hj
      · cases e
        rw [add_at, hw j hj]
        rw [List.getElem?_map, List.getElem?_eq_getElem hj] at hu
        simpa using hu
    · intro u hu
      obtain ⟨d, _, rfl⟩ := List.mem_map.1 hu
      rfl
    · intro v' w' h1 h2 _
      refine h v' w' ?_ h2
      unfold OwnS
      rw [List.length_append, List.map_append]
      exact h1

theorem begin_sync70 : ∃ DB, (∀ w, Calls Try.prog 26 #[] w fun e w' => ∃ wb a p S, e = .returned (.tuple #[.pointer (some ⟨wb, 0, none⟩), .bool true]) ∧ Wd w w' wb a p S Jb DB) ∧ Sync 2 70 Jb DB (fun _ => noughts) [] ∧ DB.pend = [] := by
  obtain ⟨_, hsy, hpn, hfu⟩ := begin_sync 70 (by omega) (by omega)
  exact ⟨Db 70, begin_any, hsy, hpn⟩

set_option maxRecDepth 100000 in
set_option maxHeartbeats 4000000 in
theorem keeps_walk (v : Value) (turn : Int) (C : Act4) (again : Int) (E : Act4) (L : List Act4) (w : World) (hL : Acts4 w v L) (ht : -9223372036854775808 ≤ turn ∧ turn ≤ 9223372036854775807) (hC : C.Ok w) (hg : -9223372036854775808 ≤ again ∧ again ≤ 9223372036854775807) (hE : E.Ok w) :
    Calls Try.prog 4 #[v, .int .i64 turn, C.agg, .int .i64 again, E.agg] w fun e w' => e = .returned (.bool true) ∧ Below w.heap.size w w' := by
  obtain ⟨i0, hi, hz0, hz1, hz2⟩ := info_parts Try.infoS
  have HZ2 := Lib.hid hz2; clear hz2
  obtain ⟨X, hX⟩ : ∃ X, (w.alloc (.cells #[.int .i64 C.op, .int .i64 C.n, .int .i64 C.at_, .slice C.kao C.keep.length C.kcap, .slice C.bao C.blks.length C.bcap, .string C.data] 59)).alloc (.cells #[.int .i64 E.op, .int .i64 E.n, .int .i64 E.at_, .slice E.kao E.keep.length E.kcap, .slice E.bao E.blks.length E.bcap, .string E.data] 59) = X := ⟨_, rfl⟩
  have hbX : Below w.heap.size w X := by rw [← hX]; exact ((Below.refl _ _).alloc (Nat.le_refl _) _).alloc (by simp) _
  have hxC : X.heap[w.heap.size]? = some (.cells #[.int .i64 C.op, .int .i64 C.n, .int .i64 C.at_, .slice C.kao C.keep.length C.kcap, .slice C.bao C.blks.length C.bcap, .string C.data] 59 (0, 0)) := by
    rw [← hX, Below.heap_alloc _ _ _ (by simp), heap_alloc_new]
  have hxE : X.heap[w.heap.size + 1]? = some (.cells #[.int .i64 E.op, .int .i64 E.n, .int .i64 E.at_, .slice E.kao E.keep.length E.kcap, .slice E.bao E.blks.length E.bcap, .string E.data] 59 (0, 0)) := by
    rw [← hX]
    have := heap_alloc_new (w.alloc (.cells #[.int .i64 C.op, .int .i64 C.n, .int .i64 C.at_, .slice C.kao C.keep.length C.kcap, .slice C.bao C.blks.length C.bcap, .string C.data] 59)) (.cells #[.int .i64 E.op, .int .i64 E.n, .int .i64 E.at_, .slice E.kao E.keep.length E.kcap, .slice E.bao E.blks.length E.bcap, .string E.data] 59)
    simpa using this
  have HKC : Hid (∀ W, Below X.heap.size X W → W.cell? ⟨w.heap.size, 1, none⟩ = some (.int .i64 C.n) ∧ W.cell? ⟨w.heap.size, 2, none⟩ = some (.int .i64 C.at_) ∧ W.cell? ⟨w.heap.size, 3, none⟩ = some (.slice C.kao C.keep.length C.kcap) ∧ W.cell? ⟨w.heap.size + 1, 1, none⟩ = some (.int .i64 E.n) ∧ W.cell? ⟨w.heap.size + 1, 2, none⟩ = some (.int .i64 E.at_) ∧ W.cell? ⟨w.heap.size + 1, 3, none⟩ = some (.slice E.kao E.keep.length E.kcap)) := fun W hW => by
    have h1 := (Array.getElem?_eq_some_iff.1 hxC).1
    have h2 := (Array.getElem?_eq_some_iff.1 hxE).1
    have e1 := (hW.block _ h1).trans hxC
    have e2 := (hW.block _ h2).trans hxE
    exact ⟨by rw [cell_at e1]; rfl, by rw [cell_at e1]; rfl, by rw [cell_at e1]; rfl, by rw [cell_at e2]; rfl, by rw [cell_at e2]; rfl, by rw [cell_at e2]; rfl⟩
  have HX := Lib.hid hX
  have HBX := Lib.hid hbX
  clear hX hbX hxC hxE
  have CS := Lib.hid (shown_any X)
  have HA : Hid (Acts4 w v L) := hL
  have CM : Hid (∀ W, Below w.heap.size w W → Calls Try.prog 25 #[v] W fun e w' => e = .returned (.bool (small4 L)) ∧ W = w') := fun W hW => small4_any hL hW
  obtain ⟨DB, hbeg, hsync, hpnd⟩ := begin_sync70
  have CB := Lib.hid hbeg; have HSY := Lib.hid hsync; have HPN := Lib.hid hpnd
  clear hbeg hsync hpnd
  obtain ⟨ao, cap, hv⟩ : ∃ ao cap, v = .slice ao L.length cap := by obtain ⟨_, _, ao, cap, hv, _⟩ := hL; exact ⟨ao, cap, hv⟩
  clear hL
  obtain ⟨n, hn⟩ : ∃ n, L.length = n := ⟨_, rfl⟩
  have HN := Lib.hid hn
  rw [hn] at hv
  clear hn
  subst hv
  have HOC := Lib.hid hC; have HOE := Lib.hid hE
  have hck := hC.klen; have hek := hE.klen
  clear hC hE
  obtain ⟨b, hb⟩ : ∃ b, w.heap.size = b := ⟨_, rfl⟩
  have HE := Lib.hid hb
  rw [hb] at HKC
  unfold Act4.agg
  by_cases hgd : small4 L = true ∧ C.keep.length ≤ 200 ∧ E.keep.length ≤ 200
  · obtain ⟨hsm, hc2, he2⟩ := hgd
    have hsm' := hsm
    unfold small4 at hsm'
    simp only [decide_eq_true_eq] at hsm'
    obtain ⟨hl30, hfit⟩ := hsm'
    rw [hsm] at CM
    rw [HN.out] at hl30
    have HF := Lib.hid hfit
    clear hsm hfit
    have g1 : ¬ (200 : Int) < (C.keep.length : Int) := by omega
    have g2 : ¬ (200 : Int) < (E.keep.length : Int) := by omega
    go_enter Try.func4, Try.ntmps4
    go_wp2_with fail
    rw [HX.out]
    refine CS.out.mono ?_
    rintro e w1 ⟨rfl, hb1⟩
    have HB1 : Hid (Below w.heap.size w w1) := HBX.out.trans (hb1.mono HBX.out.size)
    have CM1 := Lib.hid (CM.out _ HB1.out)
    have HK1 : Hid (∀ W, Below w1.heap.size w1 W → W.cell? ⟨b, 1, none⟩ = some (.int .i64 C.n) ∧ W.cell? ⟨b, 2, none⟩ = some (.int .i64 C.at_) ∧ W.cell? ⟨b, 3, none⟩ = some (.slice C.kao C.keep.length C.kcap) ∧ W.cell? ⟨b + 1, 1, none⟩ = some (.int .i64 E.n) ∧ W.cell? ⟨b + 1, 2, none⟩ = some (.int .i64 E.at_) ∧ W.cell? ⟨b + 1, 3, none⟩ = some (.slice E.kao E.keep.length E.kcap)) := fun W hW => HKC.out W (hb1.trans (hW.mono hb1.size))
    obtain ⟨k1, k2, k3, l1, l2, l3⟩ := HKC.out _ hb1
    clear hb1 CM CS HKC HX HBX hb
    go_wp2_with fail
    refine CM1.out.mono ?_
    rintro e w1' ⟨rfl, rfl⟩
    clear CM1
    go_wp2_with fail
    refine (CB.out _).mono ?_
    rintro e w2 ⟨wb, a, p, S2, rfl, hw2⟩
    have hq1 := pickI_lt turn 400 (by omega)
    have CP : Hid (∀ W, Calls Try.prog 10 #[.int .i64 turn, .int .i64 400] W fun e w' => e = .returned (.int .i64 (pickI turn 400)) ∧ W = w') := fun W => pick_any turn 400 W ht (by omega)
    generalize pickI turn 400 = q1 at *
    have CF : Hid (Calls Try.prog 27 #[.pointer (some ⟨p, 0, none⟩), .int .i64 q1] w2.drew fun e w' => e = .returned (.tuple #[]) ∧ ∃ S', Wd w1 w' wb a p S' Jb (DB.setFuse q1)) := (hw2.below ((Below.refl _ _).drew)).fuse q1 (by omega)
    have c0 := hw2.c0
    clear hw2 CB k1 k2 k3 l1 l2 l3
    go_wp2_with fail
    go_region_held3 (fun W => W.cell? ⟨wb, 0, none⟩ = some (.pointer (some ⟨p, 0, none⟩)))
      (first | exact c0 | assumption)
      (first | (go_at_call 10; refine (CP.out _).mono ?_; rintro e w3 ⟨rfl, rfl⟩) | (go_at_call 27; refine CF.out.mono ?_; rintro e w4 ⟨rfl, S4, hw4⟩; have c4 := hw4.c0))
    have HW4 := Lib.hid hw4
    have HS4 : Hid (Sync 2 70 Jb (DB.setFuse q1) (fun _ => noughts) []) := HSY.out.setFuse q1 (by omega)
    have HP4 : Hid ((DB.setFuse q1).pend = []) := HPN.out
    clear hw4 c0 CF CP HSY HPN
    generalize DB.setFuse q1 = D4 at *
    generalize Jb = J4 at *
    have CN : Hid (∀ W, Calls Try.prog 28 #[.int .u8 0] W fun e w' => e = .returned (.string noughts) ∧ Below W.heap.size W w') := fun W => by
      have := full_any 0 W
      rw [full_noughts] at this
      exact this
    obtain ⟨NT, hNT⟩ : ∃ T, noughts = T := ⟨_, rfl⟩
    rw [hNT] at CN HS4
    clear hNT
    go_wp2_with fail
    go_loopw [15, 16] (fun mv i wr => ∃ k : Nat, k ≤ 18 ∧ i = .int .i64 ((52 + k : Nat) : Int) ∧ Hid (OwnS w4.heap.size wr mv (List.replicate k NT)) ∧ Hid (Below w4.heap.size w4 wr)) (fun _ i _ => 70 - (intOf i).toNat)
    case atStart => exact ⟨0, Nat.zero_le _, rfl, OwnS.nil _ _, Below.refl _ _⟩
    case round =>
      obtain ⟨k, hk, rfl, HO, HB⟩ := hrel
      have hbr := HB.out.size
      by_cases hlt : k < 18
      · have hx : ((52 + k : Nat) : Int) < 70 := by omega
        have hlen : (List.replicate k NT).length ≤ 18 := by rw [List.length_replicate]; omega
        obtain ⟨x, hxx⟩ : ∃ x : Nat, 52 + k = x := ⟨_, rfl⟩
        rw [hxx] at hx
        rw [hxx]
        go_wp2_with fail
        refine (CN.out _).mono ?_
        rintro e w5 ⟨rfl, hb5⟩
        have HB5 := Lib.hid hb5
        have hbr5 := hb5.size
        have HO5 : Hid (OwnS w4.heap.size w5 _ _) := HO.out.below hb5
        have HSN : Hid (List.replicate (k + 1) NT = List.replicate k NT ++ [NT]) := List.replicate_succ'
        clear hb5
        generalize List.replicate k NT = M at *
        obtain ⟨ao5, c5, hv, _⟩ := HO5.out.sl
        subst hv
        go_wp2_with (at_builtin; go_loud (refine wpList_append_own _ rfl _ _ 22 rfl w4.heap.size 9 i0 _ 1 16 Try.underlying22 hi hz0 hz1 HZ2.out rfl (by decide) _ _ _ rfl (HO5.out.alloc _) _ 1 1 [.string NT] rfl rfl (one_cell (by simp)) one_one ?c3 ?c4 ?c5 ?_))
        case c3 => unfold maxLen; omega
        case c4 => omega
        case c5 => simp; omega
        intro v1 w6 hown hgrow _
        have HO6 : Hid (OwnS w4.heap.size w6 v1 (List.replicate (k + 1) NT)) := by
          show OwnS _ _ _ _
          rw [HSN.out]
          exact own_pushS hown
        have HB6 : Hid (Below w4.heap.size w4 w6) := ((HB.out.trans (HB5.out.mono hbr)).alloc (by omega) _).grown hgrow (by simp; omega) (fun q hq => (HO5.out.lt q hq).1)
        clear hown hgrow
        go_wp2
        go_roundw
        case rel => exact ⟨k + 1, by omega, by go_num, HO6, HB6⟩
        case measure => simp [intOf]; omega
      · have hk' : k = 18 := by omega
        subst hk'
        obtain ⟨w7, hw7⟩ : ∃ w7, w7 = wr := ⟨_, rfl⟩
        subst hw7
        have HMo : Hid (OwnS w4.heap.size w7 u15 (hl (fun _ => NT))) := HO.out
        have HB7 : Hid (Below w4.heap.size w4 w7) := HB.out
        clear HO HB CN hbr
        have HE7 := Lib.hid (own_empty w7)
        have HMs : Hid (SlS (w7.alloc (.cells #[] 9)) u15 (hl (fun _ => NT))) := (HMo.out.below ((Below.refl _ _).alloc (Nat.le_refl _) _)).sl
        have HMn := Lib.hid (ownS_nilcap HMo.out)
        have HLn := Lib.hid (hl_len (fun _ => NT))
        go_upto_block 2 with (at_builtin; go_loud (refine wpList_append_rows rfl _ _ rfl w7.heap.size _ [] rfl HE7.out _ (hl (fun _ => NT)) rfl HMs.out HMn.out ?c3 ?c4 ?_))
        case c3 => rw [HLn.out]; simp
        case c4 => simp
        intro v17 w8 hown8 hgrow8
        have HK8 := Lib.hid (Kp.start HW4.out HB7.out HMo.out hown8 hgrow8)
        obtain ⟨g17, c17, hv17, _, _, _, _, _⟩ := hown8.here (by rw [hl_len]; omega)
        rw [hl_len] at hv17
        subst hv17
        clear hown8 hgrow8 HE7 HMs HMn HMo HB7
        go_upto_block 2 with fail
        go_cut [15] (fun s15 wx => Hid (∃ S J D H1 H2, Kp w1 wx wb a p S J D s15 (.slice (some ⟨g17, 0, none⟩) 18 c17) (hl H1) (hl H2) ∧ D.Ok ∧ Safe 100 70 D (fun X => X = H1 ∨ X = H2) ∧ D.pend.length ≤ 10000))
        case first =>
          go_wp2_with fail
          go_loopw [15, 18] (fun s15 i wr => ∃ k : Nat, k ≤ n ∧ i = .int .i64 (k : Int) ∧ Hid (∃ S J D H F, Kp w1 wr wb a p S J D s15 (.slice (some ⟨g17, 0, none⟩) 18 c17) (hl H) (hl H) ∧ Sync (2 + 2 * k) 70 J D H F ∧ D.pend.length ≤ 108 * k)) (fun _ i _ => n - (intOf i).toNat)
          case atStart => exact ⟨0, Nat.zero_le _, rfl, ⟨_, _, _, _, _, HK8.out, HS4.out, by rw [HP4.out]; simp⟩⟩
          case round =>
            obtain ⟨k, hk, rfl, HS⟩ := hrel
            clear HK8 HS4 HP4 HW4
            by_cases hlt : k < n
            · obtain ⟨wq, hwq⟩ : ∃ wq, wq = wr := ⟨_, rfl⟩
              subst hwq
              obtain ⟨S, J, D, H, F, hkp, hsy, hpd⟩ := HS.out
              have hkL : k < L.length := by rw [HN.out]; exact hlt
              obtain ⟨g, off, cap', hv, c0, c1, c2, c3, c4, c5⟩ := HA.out.cell (HB1.out.trans (hkp.wd.bel.mono HB1.out.size)) k hkL
              obtain ⟨rfl, hnl, rfl⟩ : ao = some ⟨g, off, none⟩ ∧ n = L.length ∧ cap = cap' := by simpa using hv
              clear hnl hv
              have HAk := Lib.hid (HA.out.1 L[k] (List.getElem_mem hkL))
              have HFk := Lib.hid (HF.out L[k] (List.getElem_mem hkL))
              generalize L[k] = A at *
              have CW : Hid (Calls Try.prog 29 #[.agg #[.int .i64 A.op, .int .i64 A.n, .int .i64 A.at_, .slice A.kao A.keep.length A.kcap, .slice A.bao A.blks.length A.bcap, .string A.data]] wq fun e w' => ∃ u, e = .returned u ∧ OwnW wq.heap.size w' u A.wrs ∧ Below wq.heap.size wq w') :=
                writes_any A wq HFk.out.1 HFk.out.2.2 HAk.out.bin (HAk.out.blks.below (HB1.out.trans (hkp.wd.bel.mono HB1.out.size)))
              have CC : Hid (∀ x W, Below wq.heap.size wq W → OwnW wq.heap.size W x A.wrs → Calls Try.prog 30 #[.pointer (some ⟨a, 0, none⟩), x] W fun e w' => e = .returned (.int .i64 (J.commit D A.wrs).1) ∧ (∃ S', Kp w1 w' wb a p S' (J.commit D A.wrs).2.2 (J.commit D A.wrs).2.1 u15 (.slice (some ⟨g17, 0, none⟩) 18 c17) (hl H) (hl H)) ∧ OwnW wq.heap.size w' x A.wrs) := fun x W hW hO =>
                hkp.commit hW hO (by rw [hsy.pre.len]; exact hsy.pre.good.ok) (by omega) (by have := A.wrs_len; omega) A.wrs_size
              have hcs := keep_cases hsy (by omega) A.wrs
              have hcl := commit_len J D A.wrs
              have hwl := A.wrs_len
              obtain ⟨M, hM⟩ : ∃ M, A.wrs = M := ⟨_, rfl⟩
              rw [hM] at CW CC hcs hcl hwl
              clear hM HAk HFk
              generalize hR : J.commit D M = R at *
              obtain ⟨e1, D1, J1⟩ := R
              simp only at hcs hcl CC
              have HCS := Lib.hid hcs
              have HKP := Lib.hid hkp
              have d1 : ∀ W, Below wq.heap.size wq W → W.cell? ⟨wb, 1, none⟩ = some (.pointer (some ⟨a, 0, none⟩)) := fun W hW => (HKP.out.wd.below hW).c1
              have HD1 := Lib.hid d1
              have hg17 := (hkp.af.lt g17 rfl).2
              have HSY := Lib.hid hsy
              clear hcs hR hkp hsy d1 HS
              go_wp2_with fail
              refine CW.out.mono ?_
              rintro e w9 ⟨x, rfl, ho9, hb9⟩
              have CC9 := Lib.hid (CC.out x w9 hb9 ho9)
              have d9 := HD1.out _ hb9
              obtain ⟨ao9, c9, hv9, _⟩ := ho9.sl
              subst hv9
              clear CW CC c0 c1 c2 c3 c4 c5 ho9 hb9 HD1
              go_wp2_with fail
              refine CC9.out.mono ?_
              rintro e w10 ⟨rfl, ⟨S10, hk10⟩, ho10⟩
              have HK10 := Lib.hid hk10; have HO10 := Lib.hid ho10
              clear hk10 ho10 CC9 d9
              rcases HCS.out with ⟨e0, e4, rfl, rfl⟩ | ⟨hin, h48, ⟨rfl, hsy2⟩ | ⟨rfl, hgo⟩⟩
              · have b0 : (e1 != 0) = true := by simpa using e0
                have b4 : (e1 != 4) = true := by simpa using e4
                clear e0 e4 HCS
                go_wp2
                go_roundw
                case rel => exact ⟨k + 1, by omega, by go_num, ⟨_, _, _, _, _, HK10.out, HSY.out.more (by omega) (by omega), by omega⟩⟩
                case measure => simp [intOf]; omega
              · have HIn := Lib.hid hin
                obtain ⟨F2, hsy2⟩ := hsy2
                have HS2 := Lib.hid hsy2
                clear hsy2
                clear hin HCS
                have HK11 : Hid (Kp w1 w10 wb a p S10 J1 D1 u15 (.slice (some ⟨g17, 0, none⟩) 18 c17) (hl H) (hl (put H (M.take 0)))) := HK10.out
                clear HK10
                go_wp2_with fail
                go_loopw [21] (fun i wr => ∃ j : Nat, j ≤ M.length ∧ i = .int .i64 (j : Int) ∧ Hid (Kp w1 wr wb a p S10 J1 D1 u15 (.slice (some ⟨g17, 0, none⟩) 18 c17) (hl H) (hl (put H (M.take j)))) ∧ Hid (OwnW wq.heap.size wr (.slice ao9 M.length c9) M)) (fun i _ => M.length - (intOf i).toNat)
                case atStart => exact ⟨0, Nat.zero_le _, rfl, HK11, HO10⟩
                case round =>
                  obtain ⟨j, hj, rfl, HKj, HOj⟩ := hrel
                  clear HK11 HO10
                  by_cases hjl : j < M.length
                  · obtain ⟨gx, cx, hvx, _, hgx1, hgx2, hwa, _⟩ := HOj.out.here (by omega)
                    obtain ⟨rfl, rfl⟩ : ao9 = some ⟨gx, 0, none⟩ ∧ c9 = cx := by simpa using hvx
                    obtain ⟨x0, x1⟩ := hwa j hjl
                    obtain ⟨pn, hpn, hpe⟩ := HIn.out M[j] (List.getElem_mem hjl)
                    obtain ⟨q1, q2, hq, _, _, _, hsa, hfr⟩ := HKj.out.af.here (by rw [hl_len]; omega)
                    obtain ⟨rfl, _⟩ : g17 = q1 ∧ c17 = q2 := by rw [hl_len] at hq; simpa using hq
                    have s5 := hsa pn (by rw [hl_len]; omega)
                    have f5 := hfr pn
                    have HNX : Hid (Kp w1 ((wr.setCell ⟨g17, pn, none⟩ (.string M[j].2)).drew) wb a p S10 J1 D1 u15 (.slice (some ⟨g17, 0, none⟩) 18 c17) (hl H) (hl (put H (M.take (j + 1))))) := by
                      rw [put_take H M j hjl pn (by rw [hpe]; omega)]
                      have hk := HKj.out
                      rw [← hl_len (put H (M.take j))] at hk
                      have := (hk.store pn M[j].2).below ((Below.refl _ _).drew)
                      rw [hl_len] at this
                      exact this
                    have HOX : Hid (OwnW wq.heap.size ((wr.setCell ⟨g17, pn, none⟩ (.string M[j].2)).drew) (.slice (some ⟨gx, 0, none⟩) M.length c9) M) :=
                      OwnW.below (own_keep HOj.out (fun q hq _ => Below.heap_setCell _ _ _ _ (fun e => by
                        have e2 : gx = q := by simpa [Value.ownBlock] using hq
                        simp only at e
                        omega))) ((Below.refl _ _).drew)
                    rw [Nat.zero_add] at x0 x1 s5
                    rw [hpe] at x0
                    have i1 : (j : Int) < (M.length : Int) := by omega
                    have i2 : (pn : Int) < 18 := by omega
                    generalize M[j].2 = T at *
                    generalize (hl (put H (M.take j)))[pn]'_ = old at *
                    have hgg : gx ≠ g17 := by omega
                    clear hvx hwa hpe hq hsa hfr HKj HOj
                    go_wp2_with fail
                    have s1 : IntKind.i64.wrap (52 + (pn : Int) - 52) = (pn : Int) := (IntWalk.i64_in _ (by omega)).trans (by omega)
                    go_region
                    go_wp2
                    go_roundw
                    case rel => exact ⟨j + 1, by omega, by go_num, HNX, HOX⟩
                    case measure => simp [intOf]; omega
                  · have hjm : j = M.length := by omega
                    rw [hjm, List.take_length] at HKj
                    clear hjm
                    have HEm := Lib.hid (own_empty wr)
                    have HMs : Hid (SlS (wr.alloc (.cells #[] 9)) (.slice (some ⟨g17, 0, none⟩) 18 c17) (hl (put H M))) := (HKj.out.af.below ((Below.refl _ _).alloc (Nat.le_refl _) _)).sl
                    have HMn := Lib.hid (ownS_nilcap HKj.out.af)
                    have HLn := Lib.hid (hl_len (put H M))
                    go_wp2_with (at_builtin; go_loud (refine wpList_append_rows rfl _ _ rfl wr.heap.size _ [] rfl HEm.out _ (hl (put H M)) rfl HMs.out HMn.out ?d3 ?d4 ?_))
                    case d3 => rw [HLn.out]; simp
                    case d4 => simp
                    intro v15 w12 hown hgrow
                    have HK12 := Lib.hid (HKj.out.copy hown hgrow)
                    clear hown hgrow HEm HMs HMn HKj HOj
                    go_wp2
                    go_roundw
                    case rel => exact ⟨k + 1, by omega, by go_num, ⟨_, _, _, _, _, HK12.out, by rw [show 2 + 2 * (k + 1) = 2 + 2 * k + 2 by omega]; exact HS2.out, by omega⟩⟩
                    case measure => simp [intOf]; omega
              · have HIn := Lib.hid hin
                have HGo := Lib.hid hgo
                clear hgo
                clear hin HCS
                have HK11 : Hid (Kp w1 w10 wb a p S10 J1 D1 u15 (.slice (some ⟨g17, 0, none⟩) 18 c17) (hl H) (hl (put H (M.take 0)))) := HK10.out
                clear HK10
                go_wp2_with fail
                go_loopw [21] (fun i wr => ∃ j : Nat, j ≤ M.length ∧ i = .int .i64 (j : Int) ∧ Hid (Kp w1 wr wb a p S10 J1 D1 u15 (.slice (some ⟨g17, 0, none⟩) 18 c17) (hl H) (hl (put H (M.take j)))) ∧ Hid (OwnW wq.heap.size wr (.slice ao9 M.length c9) M)) (fun i _ => M.length - (intOf i).toNat)
                case atStart => exact ⟨0, Nat.zero_le _, rfl, HK11, HO10⟩
                case round =>
                  obtain ⟨j, hj, rfl, HKj, HOj⟩ := hrel
                  clear HK11 HO10
                  by_cases hjl : j < M.length
                  · obtain ⟨gx, cx, hvx, _, hgx1, hgx2, hwa, _⟩ := HOj.out.here (by omega)
                    obtain ⟨rfl, rfl⟩ : ao9 = some ⟨gx, 0, none⟩ ∧ c9 = cx := by simpa using hvx
                    obtain ⟨x0, x1⟩ := hwa j hjl
                    obtain ⟨pn, hpn, hpe⟩ := HIn.out M[j] (List.getElem_mem hjl)
                    obtain ⟨q1, q2, hq, _, _, _, hsa, hfr⟩ := HKj.out.af.here (by rw [hl_len]; omega)
                    obtain ⟨rfl, _⟩ : g17 = q1 ∧ c17 = q2 := by rw [hl_len] at hq; simpa using hq
                    have s5 := hsa pn (by rw [hl_len]; omega)
                    have f5 := hfr pn
                    have HNX : Hid (Kp w1 ((wr.setCell ⟨g17, pn, none⟩ (.string M[j].2)).drew) wb a p S10 J1 D1 u15 (.slice (some ⟨g17, 0, none⟩) 18 c17) (hl H) (hl (put H (M.take (j + 1))))) := by
                      rw [put_take H M j hjl pn (by rw [hpe]; omega)]
                      have hk := HKj.out
                      rw [← hl_len (put H (M.take j))] at hk
                      have := (hk.store pn M[j].2).below ((Below.refl _ _).drew)
                      rw [hl_len] at this
                      exact this
                    have HOX : Hid (OwnW wq.heap.size ((wr.setCell ⟨g17, pn, none⟩ (.string M[j].2)).drew) (.slice (some ⟨gx, 0, none⟩) M.length c9) M) :=
                      OwnW.below (own_keep HOj.out (fun q hq _ => Below.heap_setCell _ _ _ _ (fun e => by
                        have e2 : gx = q := by simpa [Value.ownBlock] using hq
                        simp only at e
                        omega))) ((Below.refl _ _).drew)
                    rw [Nat.zero_add] at x0 x1 s5
                    rw [hpe] at x0
                    have i1 : (j : Int) < (M.length : Int) := by omega
                    have i2 : (pn : Int) < 18 := by omega
                    generalize M[j].2 = T at *
                    generalize (hl (put H (M.take j)))[pn]'_ = old at *
                    have hgg : gx ≠ g17 := by omega
                    clear hvx hwa hpe hq hsa hfr HKj HOj
                    go_wp2_with fail
                    have s1 : IntKind.i64.wrap (52 + (pn : Int) - 52) = (pn : Int) := (IntWalk.i64_in _ (by omega)).trans (by omega)
                    go_region
                    go_wp2
                    go_roundw
                    case rel => exact ⟨j + 1, by omega, by go_num, HNX, HOX⟩
                    case measure => simp [intOf]; omega
                  · have hjm : j = M.length := by omega
                    rw [hjm, List.take_length] at HKj
                    clear hjm
                    have HC : Hid (∃ S J D H1 H2, Kp w1 wr wb a p S J D u15 (.slice (some ⟨g17, 0, none⟩) 18 c17) (hl H1) (hl H2) ∧ D.Ok ∧ Safe 100 70 D (fun X => X = H1 ∨ X = H2) ∧ D.pend.length ≤ 10000) :=
                      ⟨S10, J1, D1, H, put H M, HKj.out, HGo.out.dok, HGo.out.safe.more (by omega) (by omega), by omega⟩
                    clear HKj HOj HGo
                    go_wp2_with fail
                    go_meet
                    exact HC
            · obtain ⟨S, J, D, H, F, hkp, hsy, hpd⟩ := HS.out
              have HC : Hid (∃ S J D H1 H2, Kp w1 wr wb a p S J D u15 (.slice (some ⟨g17, 0, none⟩) 18 c17) (hl H1) (hl H2) ∧ D.Ok ∧ Safe 100 70 D (fun X => X = H1 ∨ X = H2) ∧ D.pend.length ≤ 10000) :=
                ⟨S, J, D, H, H, hkp, hsy.pre.dok, (hsy.pre.safe.mono (fun _ h => .inl h)).more (by omega) (by omega), by omega⟩
              clear hkp hsy hpd HS
              go_wp2_with fail
              go_meet
              exact HC
        case rest =>
          obtain ⟨S, J, D, H1, H2, hkp, hok, hsf, hpd⟩ := hcut.out
          have hq2 := pickI_lt again 100 (by omega)
          have CP : Hid (∀ W, Calls Try.prog 10 #[.int .i64 again, .int .i64 100] W fun e w' => e = .returned (.int .i64 (pickI again 100)) ∧ W = w') := fun W => pick_any again 100 W hg (by omega)
          generalize pickI again 100 = q2 at *
          obtain ⟨X, hX, hmath⟩ := keeps_math hok hsf (by omega) C.keep C.at_ C.n q2 (by omega)
          have HX := Lib.hid hX; have HM := Lib.hid hmath
          have HKC : Hid (∀ W, Below w1.heap.size w1 W → W.cell? ⟨wb, 0, none⟩ = some (.pointer (some ⟨p, 0, none⟩)) → W.cell? ⟨wb, 0, none⟩ = some (.pointer (some ⟨p, 0, none⟩)) ∧ W.cell? ⟨b, 1, none⟩ = some (.int .i64 C.n) ∧ W.cell? ⟨b, 2, none⟩ = some (.int .i64 C.at_) ∧ W.cell? ⟨b, 3, none⟩ = some (.slice C.kao C.keep.length C.kcap)) := fun W hW h0 => by
            obtain ⟨e1, e2, e3, _, _, _⟩ := HK1.out W hW
            exact ⟨h0, e1, e2, e3⟩
          have HKE : Hid (∀ W, Below w1.heap.size w1 W → W.cell? ⟨wb, 0, none⟩ = some (.pointer (some ⟨p, 0, none⟩)) → W.cell? ⟨wb, 0, none⟩ = some (.pointer (some ⟨p, 0, none⟩)) ∧ W.cell? ⟨b + 1, 1, none⟩ = some (.int .i64 E.n) ∧ W.cell? ⟨b + 1, 2, none⟩ = some (.int .i64 E.at_) ∧ W.cell? ⟨b + 1, 3, none⟩ = some (.slice E.kao E.keep.length E.kcap)) := fun W hW h0 => by
            obtain ⟨_, _, _, e1, e2, e3⟩ := HK1.out W hW
            exact ⟨h0, e1, e2, e3⟩
          have CCr : Hid (Calls Try.prog 31 #[.pointer (some ⟨p, 0, none⟩), .slice C.kao C.keep.length C.kcap, .int .i64 C.at_, .int .i64 C.n] wc.drew fun e w' => e = .returned (.tuple #[]) ∧ ∃ S', Kp w1 w' wb a p S' J (D.crash C.keep C.at_ C.n) u15 (.slice (some ⟨g17, 0, none⟩) 18 c17) (hl H1) (hl H2)) :=
            (hkp.below ((Below.refl _ _).drew)).crash C (HOC.out.below HB1.out).keeps hc2 (by omega)
          have HEk : Hid (KeepIn w1 E) := (HOE.out.below HB1.out).keeps
          obtain ⟨c0, k1, k2, k3⟩ := HKC.out _ hkp.wd.bel hkp.wd.c0
          clear hkp hok hsf hpd hX hmath hcut HK8 HS4 HP4 HW4
          go_wp2_with fail
          go_region_held3 (fun W => W.cell? ⟨wb, 0, none⟩ = some (.pointer (some ⟨p, 0, none⟩)) ∧ W.cell? ⟨b, 1, none⟩ = some (.int .i64 C.n) ∧ W.cell? ⟨b, 2, none⟩ = some (.int .i64 C.at_) ∧ W.cell? ⟨b, 3, none⟩ = some (.slice C.kao C.keep.length C.kcap))
            (first | exact ⟨c0, k1, k2, k3⟩ | assumption)
            (first | (go_at_call 31; refine CCr.out.mono ?_; rintro e wd ⟨rfl, Sd, hkd⟩; have hhd := HKC.out _ hkd.wd.bel hkd.wd.c0))
          have c0d := hhd.1
          have CF : Hid (Calls Try.prog 27 #[.pointer (some ⟨p, 0, none⟩), .int .i64 q2] wd.drew fun e w' => e = .returned (.tuple #[]) ∧ ∃ S', Kp w1 w' wb a p S' J ((D.crash C.keep C.at_ C.n).setFuse q2) u15 (.slice (some ⟨g17, 0, none⟩) 18 c17) (hl H1) (hl H2)) := (hkd.below ((Below.refl _ _).drew)).fuse q2 (by omega)
          clear hhd hkd CCr c0 k1 k2 k3 HKC
          go_wp2_with fail
          go_region_held3 (fun W => W.cell? ⟨wb, 0, none⟩ = some (.pointer (some ⟨p, 0, none⟩)))
            (first | exact c0d | assumption)
            (first | (go_at_call 10; refine (CP.out _).mono ?_; rintro e we ⟨rfl, rfl⟩) | (go_at_call 27; refine CF.out.mono ?_; rintro e wf ⟨rfl, Sf, hkf⟩; have c0f := hkf.wd.c0))
          have HKF := Lib.hid hkf
          clear hkf CF CP c0d
          rcases HM.out with ⟨D2, J2, hr, hh, hp⟩ | ⟨D2, hr, hp, hnext⟩
          · have COP := Lib.hid (HKF.out.opnGood (by simp [DevS.crash, DevS.setFuse]) hr)
            have HHG := Lib.hid hh; have HPG := Lib.hid hp
            clear hr hh hp HM
            go_wp2_with fail
            refine COP.out.mono ?_
            rintro e wg ⟨a', rfl, hfg, hcg, Sg, hkg⟩
            have HKG := Lib.hid hkg
            have CHg := Lib.hid (homeL_any hkg.wd (by rw [HPG.out]; simp))
            rw [HHG.out] at CHg
            clear hkg COP
            go_wp2_with fail
            refine CHg.out.mono ?_
            rintro e wi ⟨ui, rfl, hoi, hbi⟩
            have hki := HKG.out.below hbi
            have CS1 := Lib.hid (same_dec (hl X) (hl H1) ui u15 wi (by rw [hl_len]; omega) (by rw [hl_len, hl_len]) hoi.sl hki.mo.sl)
            have HKI := Lib.hid hki
            clear hki hoi hbi CHg
            obtain ⟨bd1, hbd1⟩ : ∃ bd, decide (hl X = hl H1) = bd := ⟨_, rfl⟩
            rw [hbd1] at CS1
            go_wp2_with fail
            refine CS1.out.mono ?_
            rintro e wj ⟨rfl, hbj⟩
            have hkj := HKI.out.below hbj
            have CHj := Lib.hid (homeL_any hkj.wd (by rw [HPG.out]; simp))
            rw [HHG.out] at CHj
            have HKJ := Lib.hid hkj
            clear hkj hbj CS1 HKI
            go_wp2_with fail
            refine CHj.out.mono ?_
            rintro e wk ⟨uk, rfl, hok', hbk⟩
            have hkk := HKJ.out.below hbk
            have CS2 := Lib.hid (same_dec (hl X) (hl H2) uk (.slice (some ⟨g17, 0, none⟩) 18 c17) wk (by rw [hl_len]; omega) (by rw [hl_len, hl_len]) hok'.sl hkk.af.sl)
            have HKK := Lib.hid hkk
            clear hkk hok' hbk CHj HKJ
            obtain ⟨bd2, hbd2⟩ : ∃ bd, decide (hl X = hl H2) = bd := ⟨_, rfl⟩
            rw [hbd2] at CS2
            go_wp2_with fail
            refine CS2.out.mono ?_
            rintro e wl ⟨rfl, hbl⟩
            have hkl := HKK.out.below hbl
            have HBL := Lib.hid (HB1.out.trans (hkl.wd.bel.mono HB1.out.size))
            clear hkl hbl CS2 HKK HKG
            have hor : bd1 = true ∨ bd2 = true := by
              rcases HX.out with h | h
              · left; rw [← hbd1, h]; exact decide_eq_true rfl
              · right; rw [← hbd2, h]; exact decide_eq_true rfl
            clear hbd1 hbd2
            cases bd1 with
            | true =>
              go_wp2
              go_ret
              exact ⟨rfl, HBL.out⟩
            | false =>
              obtain rfl : bd2 = true := by simpa using hor
              go_wp2
              go_ret
              exact ⟨rfl, HBL.out⟩
          · have COB := Lib.hid (HKF.out.opnBad (by simp [DevS.crash, DevS.setFuse]) hr)
            obtain ⟨D3, J3, hr3, hh, hp3⟩ := hnext E.keep E.at_ E.n
            have HHG := Lib.hid hh; have HPG := Lib.hid hp3; have HR3 := Lib.hid hr3
            clear hr hh hr3 hp3 HM hnext HKF
            go_wp2_with fail
            refine COB.out.mono ?_
            rintro e wm ⟨rfl, Sm, hkm⟩
            have CCr : Hid (Calls Try.prog 31 #[.pointer (some ⟨p, 0, none⟩), .slice E.kao E.keep.length E.kcap, .int .i64 E.at_, .int .i64 E.n] wm.drew fun e w' => e = .returned (.tuple #[]) ∧ ∃ S', Kp w1 w' wb a p S' J (D2.crash E.keep E.at_ E.n) u15 (.slice (some ⟨g17, 0, none⟩) 18 c17) (hl H1) (hl H2)) :=
              (hkm.below ((Below.refl _ _).drew)).crash E HEk.out he2 (by omega)
            obtain ⟨c0, k1, k2, k3⟩ := HKE.out _ hkm.wd.bel hkm.wd.c0
            clear hkm COB c0f
            go_wp2_with fail
            go_region_held3 (fun W => W.cell? ⟨wb, 0, none⟩ = some (.pointer (some ⟨p, 0, none⟩)) ∧ W.cell? ⟨b + 1, 1, none⟩ = some (.int .i64 E.n) ∧ W.cell? ⟨b + 1, 2, none⟩ = some (.int .i64 E.at_) ∧ W.cell? ⟨b + 1, 3, none⟩ = some (.slice E.kao E.keep.length E.kcap))
              (first | exact ⟨c0, k1, k2, k3⟩ | assumption)
              (first | (go_at_call 31; refine CCr.out.mono ?_; rintro e wn ⟨rfl, Sn, hkn⟩; have hhn := HKE.out _ hkn.wd.bel hkn.wd.c0))
            have c0n := hhn.1
            have COP := Lib.hid (hkn.opnGood (by simp [DevS.crash]) HR3.out)
            clear hhn hkn CCr c0 k1 k2 k3 HKE
            go_wp2_with fail
            refine COP.out.mono ?_
            rintro e wg ⟨a', rfl, hfg, hcg, Sg, hkg⟩
            have HKG := Lib.hid hkg
            have CHg := Lib.hid (homeL_any hkg.wd (by rw [HPG.out]; simp))
            rw [HHG.out] at CHg
            clear hkg COP
            go_wp2_with fail
            refine CHg.out.mono ?_
            rintro e wi ⟨ui, rfl, hoi, hbi⟩
            have hki := HKG.out.below hbi
            have CS1 := Lib.hid (same_dec (hl X) (hl H1) ui u15 wi (by rw [hl_len]; omega) (by rw [hl_len, hl_len]) hoi.sl hki.mo.sl)
            have HKI := Lib.hid hki
            clear hki hoi hbi CHg
            obtain ⟨bd1, hbd1⟩ : ∃ bd, decide (hl X = hl H1) = bd := ⟨_, rfl⟩
            rw [hbd1] at CS1
            go_wp2_with fail
            refine CS1.out.mono ?_
            rintro e wj ⟨rfl, hbj⟩
            have hkj := HKI.out.below hbj
            have CHj := Lib.hid (homeL_any hkj.wd (by rw [HPG.out]; simp))
            rw [HHG.out] at CHj
            have HKJ := Lib.hid hkj
            clear hkj hbj CS1 HKI
            go_wp2_with fail
            refine CHj.out.mono ?_
            rintro e wk ⟨uk, rfl, hok', hbk⟩
            have hkk := HKJ.out.below hbk
            have CS2 := Lib.hid (same_dec (hl X) (hl H2) uk (.slice (some ⟨g17, 0, none⟩) 18 c17) wk (by rw [hl_len]; omega) (by rw [hl_len, hl_len]) hok'.sl hkk.af.sl)
            have HKK := Lib.hid hkk
            clear hkk hok' hbk CHj HKJ
            obtain ⟨bd2, hbd2⟩ : ∃ bd, decide (hl X = hl H2) = bd := ⟨_, rfl⟩
            rw [hbd2] at CS2
            go_wp2_with fail
            refine CS2.out.mono ?_
            rintro e wl ⟨rfl, hbl⟩
            have hkl := HKK.out.below hbl
            have HBL := Lib.hid (HB1.out.trans (hkl.wd.bel.mono HB1.out.size))
            clear hkl hbl CS2 HKK HKG
            have hor : bd1 = true ∨ bd2 = true := by
              rcases HX.out with h | h
              · left; rw [← hbd1, h]; exact decide_eq_true rfl
              · right; rw [← hbd2, h]; exact decide_eq_true rfl
            clear hbd1 hbd2
            cases bd1 with
            | true =>
              go_wp2
              go_ret
              exact ⟨rfl, HBL.out⟩
            | false =>
              obtain rfl : bd2 = true := by simpa using hor
              go_wp2
              go_ret
              exact ⟨rfl, HBL.out⟩
  · clear HA CB HSY HPN HOC HOE
    by_cases h1 : small4 L = true
    · rw [h1] at CM
      by_cases h2 : C.keep.length ≤ 200
      · have h3 : ¬ E.keep.length ≤ 200 := fun h => hgd ⟨h1, h2, h⟩
        have g1 : ¬ (200 : Int) < (C.keep.length : Int) := by omega
        have g2 : (200 : Int) < (E.keep.length : Int) := by omega
        clear hgd h1
        go_enter Try.func4, Try.ntmps4
        go_wp2_with fail
        rw [HX.out]
        refine CS.out.mono ?_
        rintro e w1 ⟨rfl, hb1⟩
        have HB1 : Hid (Below w.heap.size w w1) := HBX.out.trans (hb1.mono HBX.out.size)
        have CM1 := Lib.hid (CM.out _ HB1.out)
        obtain ⟨k1, k2, k3, l1, l2, l3⟩ := HKC.out _ hb1
        clear hb1 CM CS HKC HX HBX hb
        go_wp2_with fail
        refine CM1.out.mono ?_
        rintro e w1' ⟨rfl, rfl⟩
        clear CM1
        go_wp2
        go_ret
        exact ⟨rfl, HB1.out⟩
      · have g1 : (200 : Int) < (C.keep.length : Int) := by omega
        clear hgd h1
        go_enter Try.func4, Try.ntmps4
        go_wp2_with fail
        rw [HX.out]
        refine CS.out.mono ?_
        rintro e w1 ⟨rfl, hb1⟩
        have HB1 : Hid (Below w.heap.size w w1) := HBX.out.trans (hb1.mono HBX.out.size)
        have CM1 := Lib.hid (CM.out _ HB1.out)
        obtain ⟨k1, k2, k3, l1, l2, l3⟩ := HKC.out _ hb1
        clear hb1 CM CS HKC HX HBX hb
        go_wp2_with fail
        refine CM1.out.mono ?_
        rintro e w1' ⟨rfl, rfl⟩
        clear CM1
        go_wp2
        go_ret
        exact ⟨rfl, HB1.out⟩
    · have hsm' : small4 L = false := by simpa using h1
      rw [hsm'] at CM
      clear hgd h1 hsm'
      go_enter Try.func4, Try.ntmps4
      go_wp2_with fail
      rw [HX.out]
      refine CS.out.mono ?_
      rintro e w1 ⟨rfl, hb1⟩
      have HB1 : Hid (Below w.heap.size w w1) := HBX.out.trans (hb1.mono HBX.out.size)
      have CM1 := Lib.hid (CM.out _ HB1.out)
      obtain ⟨k1, k2, k3, l1, l2, l3⟩ := HKC.out _ hb1
      clear hb1 CM CS HKC HX HBX hb
      go_wp2_with fail
      refine CM1.out.mono ?_
      rintro e w1' ⟨rfl, rfl⟩
      clear CM1
      go_wp2
      go_ret
      exact ⟨rfl, HB1.out⟩
end Go.Proofs.Ytodfcbpimglhdaa
