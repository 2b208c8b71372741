/- The document's own Open: what it answers and leaves behind, for every device: the same. -/
import Derived.Test.YthambopnmhkeeaaGreatZSSteady
import Derived.Test.YthambopnmhkeeaaGreatZVCkp

set_option maxRecDepth 100000
namespace Go.Proofs.YthambopnmhkeeaaGreat
open Go.RowKit
open Fr (SlW OwnW WritesAt)
section
variable {S : Nat -> Prop} {w w' w1 : World} {a r : Nat} {J : JS} {D D1 : DevS}
def VOpened (S : Nat -> Prop) (w w' : World) (r : Nat) (x : Int × DevS × Option JS) (e : Ending) : Prop :=
 ∃ S' : Nat -> Prop, (∀ k, S' k -> S k \/ w.heap.size <= k) /\ RStands S' w' r x.2.1 /\ Only S w w' /\
  (match x.2.2 with
  | none => e = .returned (.tuple #[.pointer none, .int .i64 x.1])
  | some J => ∃ a, e = .returned (.tuple #[.pointer (some ⟨a, 0, none⟩), .int .i64 x.1]) /\ w.heap.size <= a /\ ¬ S' a /\ Jr 136 w' a r J)
set_option maxHeartbeats 1000000 in
theorem vopen_dead (hd : RStands S w r D) (hde : D.dead = true) : Calls Tryz.prog 77 #[.pointer (some ⟨r, 0, none⟩)] w fun e w' => VOpened S w w' r D.opn e := by
 have HD := Lib.hid hd
 have HO : Hid (D.opn = (4, D, none)) := by show _ = _; unfold DevS.opn; rw [hde]; rfl
 obtain ⟨q, lcap, pv, href⟩ := hd
 have c3 := href.c3
 rw [hde] at c3
 clear href hde
 go_enter Tryz.func77, Tryz.ntmps77
 go_wp2
 go_ret2
 unfold VOpened
 rw [HO.out]
 exact ⟨S, fun _ => .inl, HD.out, Only.refl _ _, rfl⟩
theorem RJ.leavesG {w0 : World} {T : Nat -> Prop} (h : RJ w0 w S a r J D T) (hl : RLeaves S w w1 r D1) (g : Nat) (hg : g < w.heap.size) (hs : ¬ S g) : ∃ S', RJ w0 w1 S' a r J D1 T /\ ¬ S' g /\ w1.heap[g]? = w.heap[g]? := by
 obtain ⟨S', hS', hst, ho⟩ := hl
 have hla := h.jr.lt
 refine ⟨S', ⟨h.jr.only ho h.na, hst, fun hk => ?_, fun k hk => ?_, h.only.trans ho (fun i hi hs => ?_)⟩, fun hk => ?_, ho.block g hg hs⟩
 ·rcases hS' a hk with h1 | h1
  ·exact h.na h1
  ·omega
 ·rcases hS' k hk with h1 | h1
  ·exact h.own k h1
  ·exact .inr (Nat.le_trans h.only.size h1)
 ·rcases h.own i hs with h1 | h1
  ·exact .inl h1
  ·omega
 ·rcases hS' g hk with h1 | h1
  ·exact hs h1
  ·omega
def RedoV (S : Nat -> Prop) (w0 : World) (a r : Nat) (J : JS) (D : DevS) (m : Nat) (wr : World) : Prop :=
 ∃ (Jk : JS) (Dk : DevS) (S' : Nat -> Prop), Jk.redoN Dk m = J.redo D /\ Jk.left < m /\ Jk.Ok D.disk.length /\ Dk.dead = false /\ Dk.disk.length = D.disk.length /\ Dk.pend.length + Jk.left <= D.pend.length + J.log /\ RJ w0 wr S' a r Jk Dk S
theorem vopened_of {X w2 w4 : World} {D' : DevS} {J' : JS} (hS : ∀ k, S k -> k < w.heap.size) (haw : w.heap.size = a) (hXb : Below w.heap.size w X) (ho : Only (fun k => k = a) X w2) (hal : a < w2.heap.size) (h : RJLeaves S w2 w4 a r D' J') :
  ∃ S' : Nat -> Prop, (∀ k, S' k -> S k \/ w.heap.size <= k) /\ RStands S' w4 r D' /\ Only S w w4 /\ ¬ S' a /\ Jr 136 w4 a r J' := by
 obtain ⟨S', h1, h2, h3, h4⟩ := h
 have hz : w.heap.size <= w2.heap.size := Nat.le_trans hXb.size ho.size
 refine ⟨S', fun k hk => ?_, h2, ?_, fun hk => ?_, h3⟩
 ·rcases h1 k hk with h | h
  ·exact .inl h
  ·exact .inr (by omega)
 ·have h5 : Only S w w2 := (Only.of_below S hXb (Nat.le_refl _)).trans ho (fun i hi h => by omega)
  exact h5.trans h4 (fun i hi h => by rcases h with h | h; exact h; omega)
 ·rcases h1 a hk with h | h
  ·have := hS a h; omega
  ·omega
theorem cells_heap {g : Nat} {L : List (Int × ByteArray)} (h : WritesAt w g 0 L) (he : w'.heap[g]? = w.heap[g]?) : WritesAt w' g 0 L := fun j hj =>
 ⟨(World.cell?_of_block (w := w) (a := ⟨g, 0 + j * 2, none⟩) he).trans (h j hj).1, (World.cell?_of_block (w := w) (a := ⟨g, 0 + j * 2 + 1, none⟩) he).trans (h j hj).2⟩
set_option maxHeartbeats 4000000 in
theorem vopen_live (hd : RStands S w r D) (hde : D.dead = false) (hp : D.pend.length <= 600000) : Calls Tryz.prog 77 #[.pointer (some ⟨r, 0, none⟩)] w fun e w' => VOpened S w w' r D.opn e := by
 have hnd := hd.ok.few
 have h1 := hd.ok.some
 have hlt := hd.lt
 obtain ⟨a, haw⟩ : ∃ a, w.heap.size = a := ⟨_, rfl⟩
 obtain ⟨X, hX⟩ : ∃ X, w.alloc (.cells #[.pointer (some ⟨r, 0, none⟩), .int .u64 0, .int .u64 0, .int .i64 0, .int .i64 0, .int .i64 (-1), .int .u64 0, .int .i64 0] 136) = X := ⟨_, rfl⟩
 have hXb : Below w.heap.size w X := by rw [<- hX]; exact (Below.refl _ _).alloc (Nat.le_refl _) _
 have hXj : VJr X a r none := by unfold VJr; rw [<- hX, <- haw]; exact heap_alloc_new ..
 have hXs := hd.below hXb
 have hna : ¬ S a := fun h => by have := hlt _ h; omega
 have HNA := Lib.hid hna
 have HXS := Lib.hid hXs
 have HX := Lib.hid hX; clear hX
 have HXJ := Lib.hid hXj; have HXB := Lib.hid hXb; have HD := Lib.hid hd
 have HKS : Hid (∀ W, Only (fun k => k = a) X W -> RStands S W r D) := fun W hW => hXs.kept hW (fun k hk hka => hna (hka ▸ hk))
 obtain ⟨q, lcap, hcd⟩ : ∃ q lcap, Hid (∀ W, Only (fun k => k = a) X W -> W.cell? ⟨r, 0, none⟩ = some (.slice (some ⟨q, 0, none⟩) D.disk.length lcap)) := by
  obtain ⟨q, lcap, pv, href⟩ := hXs
  exact ⟨q, lcap, fun W hW => (href.kept hW (fun k hk hka => hna (hka ▸ hk))).c0⟩
 have cg : w.cell? ⟨r, 3, none⟩ = some (.bool false) := by
  obtain ⟨q, lcap, pv, href⟩ := hd
  rw [<- hde]; exact href.c3
 have CR : Hid (∀ W k, k < D.disk.length -> Only (fun k => k = a) X W -> Calls Tryz.prog 138 #[.pointer (some ⟨r, 0, none⟩), .int .i64 ((k : Nat) : Int)] W fun e w' => e = .returned (.tuple #[.string (D.rdB k), .int .i64 0]) /\ W = w') := fun W k hk hW => by
  have := rread_any (k : Int) (by omega) (hXs.kept hW (fun k hk hka => hna (hka ▸ hk)))
  rw [DevS.rd_live hde _ hk] at this; exact this
 have CS : Hid (∀ W k, k < D.disk.length -> Calls Tryz.prog 139 #[.string (D.rdB k), .int .i64 (D.disk.length : Int)] W fun e w' => VRead W (D.slotAt k) e w') := fun W k hk => by
  have := vread_any (D.rdB k) D.disk.length W (hd.ok.rdB_size k hk) hnd
  have e : D.slotAt k = rdSlot (D.rdB k) D.disk.length := by unfold DevS.slotAt; rw [if_pos hk]
  rw [e]; exact this
 have HSn : Hid (∀ k, D.disk.length <= k -> D.slotAt k = none) := fun k hk => by unfold DevS.slotAt; rw [if_neg (by omega)]
 have HFB := Lib.hid (find_bestV D)
 have HDE := Lib.hid hde
 have HAW := Lib.hid haw
 clear hd hde hlt hXb hXj hXs hna haw
 obtain ⟨nd, hnd'⟩ : ∃ n, D.disk.length = n := ⟨_, rfl⟩
 rw [hnd'] at CS CR hnd h1 hcd HSn
 have HND := Lib.hid hnd'; clear hnd'
 go_enter Tryz.func77, Tryz.ntmps77
 go_wp2_with fail
 rw [HX.out, HAW.out]
 clear cg
 go_loopw [5] (fun i wr => ∃ m : Nat, m <= 2 /\ i = .int .i64 ((m : Int) - 1) /\ Hid (VJr wr a r (D.bestV (2 - m))) /\ Hid (Only (fun k => k = a) X wr)) (fun i _ => (intOf i + 1).toNat)
 case atStart => exact ⟨2, Nat.le_refl _, rfl, HXJ, Only.refl _ _⟩
 case round =>
  obtain ⟨m, hm, rfl, HJ, HO⟩ := hrel
  cases m with
  | zero =>
   rw [show (((0 : Nat) : Int) - 1) = -1 from rfl]
   have HJ' : Hid (VJr wr a r (D.bestV 2)) := HJ
   clear HJ HXJ CR CS HSn hcd
   cases hbk : D.bestV 2 with
   | none =>
    rw [hbk] at HJ' HFB
    have HF : Hid (D.opn = (10, D, none)) := by show _ = _; unfold DevS.opn; rw [HDE.out, HFB.out]; rfl
    have X5 := HJ'.out.c5
    simp only [v5] at X5
    have HS1 : Hid (RStands S wr r D) := HKS.out _ HO.out
    have HO1 : Hid (Only S w wr) := (Only.of_below S HXB.out (Nat.le_refl _)).trans HO.out (fun i hi h => by have := HAW.out; omega)
    clear hbk
    go_wp2
    go_ret2
    unfold VOpened
    rw [HF.out]
    exact ⟨S, fun _ => .inl, HS1.out, HO1.out, rfl⟩
   | some z =>
    obtain ⟨⟨ye, ys, yl, yp⟩, yi⟩ := z
    rw [hbk] at HJ' HFB
    obtain ⟨J, hJ⟩ : ∃ J, slotJ (ye, ys, yl, yp) yi = J := ⟨_, rfl⟩
    have HF : Hid (D.find = some J) := by show _ = _; rw [HFB.out, <- hJ]; rfl
    obtain ⟨hok, hfu⟩ := find_ok HF.out
    have HJ2 := Lib.hid HJ'.out.found
    rw [hJ] at HJ2
    have X5 := HJ'.out.c5; have X2 := HJ'.out.c2; have X6 := HJ'.out.c6; have F6 := HJ'.out.f 6
    simp only [v5, v2] at X5 X2
    simp only at HJ2
    have hyi : ¬ ((yi : Int) < 0) := by omega
    obtain ⟨w2, hw2⟩ : ∃ w2, wr.setCell ⟨a, 6, none⟩ (.int .u64 (ys : Int)) = w2 := ⟨_, rfl⟩
    rw [hw2] at HJ2
    have HO2 : Hid (Only (fun k => k = a) X w2) := by
     show Only _ _ _
     rw [<- hw2]; exact HO.out.setCell (p := ⟨a, 6, none⟩) (fun _ => rfl) _
    have HW2 := Lib.hid hw2
    have HS2 : Hid (RStands S w2 r D) := HKS.out _ HO2.out
    have HRJ := Lib.hid (RJ.start HJ2.out HS2.out HNA.out)
    have HI : Hid (RedoV S w2 a r J D (J.log + 1) w2) := ⟨J, D, S, rfl, by unfold JS.left; omega, hok, HDE.out, rfl, by unfold JS.left; omega, HRJ.out⟩
    have HOp : Hid (D.opn = if (J.redo D).1 ≠ 0 then ((J.redo D).1, (J.redo D).2.1, none) else if ((J.redo D).2.2.ckp (J.redo D).2.1).1 ≠ 0 then (((J.redo D).2.2.ckp (J.redo D).2.1).1, ((J.redo D).2.2.ckp (J.redo D).2.1).2.1, none) else (0, ((J.redo D).2.2.ckp (J.redo D).2.1).2.1, some ((J.redo D).2.2.ckp (J.redo D).2.1).2.2)) := by
     show _ = _; unfold DevS.opn; rw [HDE.out, HF.out]; rfl
    have hll : J.log + 3 <= nd := by rw [<- HND.out]; exact hok.l1
    clear hbk hJ hw2 HO HJ' hok hfu HRJ HFB
    go_wp2_with fail
    rw [HW2.out]
    go_loopg [13] (J.log + 1) (fun m u wr => Hid (RedoV S w2 a r J D m wr))
    case atStart => exact HI
    case round =>
     clear HI
     obtain ⟨Jk, Dk, Sk, he, hm', hok, hde, hdk, hpk, hrj⟩ := hrel.out
     clear hrel
     obtain ⟨m, rfl⟩ : ∃ m, gk = m + 1 := ⟨gk - 1, by omega⟩
     have hok1 : Jk.Ok Dk.disk.length := by rw [hdk]; exact hok
     have hln : Jk.log + 3 <= nd := by rw [<- HND.out]; exact hok.l1
     have CX := Lib.hid (vframe_any hrj.jr hrj.dev hde hok1 (by omega))
     have HRJ := Lib.hid hrj
     have hleft : Jk.left <= 4096 := by unfold JS.left; omega
     clear hrj
     cases hfr : Jk.frameOf Dk with
     | none =>
      have HR : Hid (J.redo D = (0, Dk, Jk)) := by show _ = _; rw [<- he]; exact redoN_none m hfr
      rw [hfr] at CX
      have HOp2 : Hid (D.opn = if (Jk.ckp Dk).1 ≠ 0 then ((Jk.ckp Dk).1, (Jk.ckp Dk).2.1, none) else (0, (Jk.ckp Dk).2.1, some (Jk.ckp Dk).2.2)) := by
       show _ = _; rw [HOp.out, HR.out]; rfl
      have HOK := Lib.hid hok1
      clear he hm' hok hde hdk hok1 hfr HOp HR
      go_wp2_with fail
      refine CX.out.mono ?_
      rintro e w3 ⟨u, kk, b, rfl, hb3, hcs⟩
      obtain rfl : b = false := by
       rcases hcs with ⟨_, h⟩ | ⟨_, h, _⟩
       ·exact h
       ·cases h
      have HR3 := Lib.hid (HRJ.out.below hb3)
      clear hcs hb3 CX HRJ
      have CK := Lib.hid (vckp_any HR3.out.jr HR3.out.dev HR3.out.na HOK.out (by omega))
      generalize Jk.ckp Dk = R at *
      obtain ⟨er, DR, JR⟩ := R
      simp only at CK HOp2
      go_wp2_with fail
      refine CK.out.mono ?_
      rintro e w4 ⟨rfl, hl4⟩
      have HL4 : Hid (RJLeaves S w2 w4 a r DR JR) := RJLeaves.next HR3.out.own HR3.out.only hl4
      clear hl4 CK
      have hal2 := HJ2.out.lt
      by_cases her : er = 0
      ·have her' : (er != 0) = false := by simp [her]
       rw [if_neg (by simpa using her)] at HOp2
       go_wp2
       go_ret2
       obtain ⟨S3, h1, h2, h3, h4, h5⟩ := vopened_of HD.out.lt HAW.out HXB.out HO2.out hal2 HL4.out
       unfold VOpened
       rw [HOp2.out]
       exact ⟨S3, h1, h2, h3, a, rfl, by rw [HAW.out]; exact Nat.le_refl _, h4, h5⟩
      ·have her' : (er != 0) = true := by simp [her]
       rw [if_pos (by simpa using her)] at HOp2
       go_wp2
       go_ret2
       obtain ⟨S3, h1, h2, h3, h4, h5⟩ := vopened_of HD.out.lt HAW.out HXB.out HO2.out hal2 HL4.out
       unfold VOpened
       rw [HOp2.out]
       exact ⟨S3, h1, h2, h3, rfl⟩
     | some ws =>
      obtain ⟨f1, f2, f3, f4⟩ := frameOf_some hfr
      have hE := redoN_some m hfr
      rw [he] at hE
      rw [hfr] at CX
      have hok2 : (Jk.grow (ws.length + 1)).Ok D.disk.length := hok.grow _ (by unfold JS.left at f3; have := hok.fu; omega)
      have hl2 : (Jk.grow (ws.length + 1)).left = Jk.left - (ws.length + 1) := by unfold JS.left JS.grow; simp only; omega
      have hwl := Dk.wrs_len ws
      have HWd := Lib.hid (Dk.wrs_disk ws)
      have HWl := Lib.hid (Dk.wrs_live ws hde)
      have HE := Lib.hid hE; have HOK2 := Lib.hid hok2; have HDk := Lib.hid hdk
      have hfl : Jk.full <= 4096 := by have := hok.fu; omega
      have hnx := hok.n64
      clear hE he hok hde hfr hdk hok1 hok2 f4
      go_wp2_with fail
      refine CX.out.mono ?_
      rintro e w3 ⟨u, kk, b, rfl, hb3, hcs⟩
      obtain ⟨rfl, rfl, hou⟩ : b = true /\ kk = 1 + (ws.length : Int) /\ OwnW wr.heap.size w3 u ws := by
       rcases hcs with ⟨h, _⟩ | ⟨ws', h, h2, h3, h4⟩
       ·cases h
       ·cases h; exact ⟨h2, h3, h4⟩
      obtain ⟨g, cu, rfl, _, hgB, hgl, hat, _⟩ := hou.here (by omega)
      have HR3 := Lib.hid (HRJ.out.below hb3)
      have HGS : Hid (¬ Sk g) := fun h => by have := HRJ.out.dev.lt g h; omega
      have HAT := Lib.hid hat
      clear hcs hb3 CX HRJ hou hat
      go_wp2_with fail
      go_loopw [13] (fun i wq => ∃ (k : Nat) (Sq : Nat -> Prop), k <= ws.length /\ i = .int .i64 k /\ Hid ((Dk.wrs (ws.take k)).1 = 0) /\ Hid (RJ w2 wq Sq a r Jk (Dk.wrs (ws.take k)).2 S) /\ Hid (¬ Sq g) /\ Hid (wq.heap[g]? = w3.heap[g]?) /\ g < wq.heap.size) (fun i _ => ws.length - (intOf i).toNat)
      case atStart => exact ⟨0, Sk, Nat.zero_le _, rfl, rfl, HR3, HGS, rfl, hgl⟩
      case round =>
       obtain ⟨k, Sq, hk, rfl, HZ, HRq, HGq, HHq, hgq⟩ := hrel
       by_cases hlt : k < ws.length
       ·have hat := cells_heap HAT.out HHq.out
        obtain ⟨y0, y1⟩ := hat k hlt
        rw [Nat.zero_add] at y0 y1
        have HG := Lib.hid fun h0 he => wrs_goes Dk ws k hlt h0 he
        have HSt := Lib.hid fun h0 he => wrs_stop Dk ws k hlt h0 he
        have hpk2 : (Dk.wrs (ws.take k)).2.pend.length <= Dk.pend.length + k := by have := Dk.wrs_len (ws.take k); rw [List.length_take] at this; omega
        obtain ⟨x, hx⟩ : ∃ x, ws[k] = x := ⟨_, rfl⟩
        rw [hx] at y0 y1 HG HSt
        obtain ⟨xb, xd⟩ := x
        simp only at y0 y1 HG HSt
        generalize (Dk.wrs (ws.take k)) = Q at *
        obtain ⟨Q1, Q2⟩ := Q
        simp only at HG HSt HZ HRq hpk2
        obtain ⟨R, hR⟩ : ∃ R, Q2.wr xb xd = R := ⟨_, rfl⟩
        rw [hR] at HG HSt
        have CW : Hid (∀ W, Below wr.heap.size wr W -> Calls Tryz.prog 29 #[.pointer (some ⟨r, 0, none⟩), .int .i64 xb, .string xd] W fun e w' => e = .returned (.int .i64 R.1) /\ ∃ S', RJ w2 w' S' a r Jk R.2 S /\ ¬ S' g /\ w'.heap[g]? = w3.heap[g]? /\ g < w'.heap.size) := fun W hW => by
         have h2 := HRq.out.below hW
         have hgW : g < W.heap.size := Nat.lt_of_lt_of_le hgq hW.size
         have := rwrite_any xb xd (by omega) h2.dev
         rw [hR] at this
         refine this.mono fun e w' ⟨he, hl⟩ => ?_
         obtain ⟨S', j1, j2, j3⟩ := h2.leavesG hl g hgW HGq.out
         exact ⟨he, S', j1, j2, by rw [j3, hW.block g hgq]; exact HHq.out, by obtain ⟨_, _, _, ho⟩ := hl; have := ho.size; omega⟩
        clear hat hR hx HRq HGq
        obtain ⟨er, DR⟩ := R
        simp only at CW HG HSt
        have HKg : Hid (∀ W : World, W.heap[g]? = w3.heap[g]? -> W.cell? ⟨g, k * 2, none⟩ = some (.int .i64 xb) /\ W.cell? ⟨g, k * 2 + 1, none⟩ = some (.string xd)) := fun W hW =>
         ⟨(World.cell?_of_block (w := wr) (a := ⟨g, k * 2, none⟩) (hW.trans HHq.out.symm)).trans y0, (World.cell?_of_block (w := wr) (a := ⟨g, k * 2 + 1, none⟩) (hW.trans HHq.out.symm)).trans y1⟩
        go_wp2_with fail
        go_region_held3 (fun W => W.cell? ⟨g, k * 2, none⟩ = some (.int .i64 xb) /\ W.cell? ⟨g, k * 2 + 1, none⟩ = some (.string xd))
         (first | exact ⟨y0, y1⟩ | assumption)
         (first
          | (go_at_call 29; (with_reducible refine (CW.out _ ((Below.refl _ _).drew)).mono ?_); rintro e w6 ⟨rfl, S6, hr6, hg6, hh6, hgl6⟩; have hk6 := HKg.out w6 hh6))
        have HR6 := Lib.hid hr6; have HG6 := Lib.hid hg6; have HH6 := Lib.hid hh6
        clear hr6 hg6 hh6 hk6 CW HKg y0 y1
        by_cases her : er = 0
        ·have her' : (er != 0) = false := by simp [her]
         have HN : Hid ((Dk.wrs (ws.take (k + 1))).1 = 0 /\ (Dk.wrs (ws.take (k + 1))).2 = DR) := HG.out HZ.out her
         clear HG HSt
         go_wp2
         go_roundw
         case rel => exact ⟨k + 1, S6, by omega, by go_num, HN.out.1, by show RJ _ _ _ _ _ _ _ _; rw [HN.out.2]; exact HR6.out, HG6, HH6, hgl6⟩
         case measure => simp [intOf]; omega
        ·have her' : (er != 0) = true := by simp [her]
         have HW : Hid (Dk.wrs ws = (er, DR)) := HSt.out HZ.out her
         have HOp2 : Hid (D.opn = (er, DR, none)) := by
          show _ = _
          have h5 := HE.out
          rw [HW.out, if_pos (by simpa using her)] at h5
          rw [HOp.out, h5, if_pos (by simpa using her)]
         have hal2 := HJ2.out.lt
         clear HG HSt HOp HE
         go_wp2
         go_ret2
         obtain ⟨S3, h1, h2, h3, h4, h5⟩ := vopened_of HD.out.lt HAW.out HXB.out HO2.out hal2 HR6.out.ends
         unfold VOpened
         rw [HOp2.out]
         exact ⟨S3, h1, h2, h3, rfl⟩
       ·obtain rfl : k = ws.length := by omega
        rw [List.take_length] at HZ HRq
        have h5 := HE.out
        rw [if_neg (by simpa using HZ.out)] at h5
        have HE2 := Lib.hid h5; clear h5
        have c7 := HRq.out.jr.c7; have c6 := HRq.out.jr.c6; have f7 := HRq.out.jr.f 7; have f6 := HRq.out.jr.f 6
        have wN : IntKind.u64.wrap ((Jk.next : Int) + 1) = (((Jk.next + 1) % 18446744073709551616 : Nat) : Int) := by simp [IntKind.wrap, IntKind.bits, IntKind.signed]
        have HN : Hid (RJ w2 ((wr.setCell ⟨a, 7, none⟩ (.int .i64 ((Jk.full : Int) + (1 + (ws.length : Int))))).setCell ⟨a, 6, none⟩ (.int .u64 (((Jk.next + 1) % 18446744073709551616 : Nat) : Int))) Sq a r (Jk.grow (ws.length + 1)) (Dk.wrs ws).2 S) := by
         have k1 := HRq.out.put (J' := { Jk with full := Jk.full + (ws.length + 1) }) (i := 7) (v := .int .i64 ((Jk.full : Int) + (1 + (ws.length : Int)))) (by simp [JCells]; omega)
         exact k1.put (J' := Jk.grow (ws.length + 1)) (i := 6) (v := .int .u64 (((Jk.next + 1) % 18446744073709551616 : Nat) : Int)) (by simp [JCells, JS.grow])
        obtain ⟨nx, hnx'⟩ : ∃ nx : Nat, (Jk.next + 1) % 18446744073709551616 = nx := ⟨_, rfl⟩
        rw [hnx'] at wN HN
        clear hnx'
        go_wp2
        go_roundg m
        case measure => exact Nat.lt_succ_self m
        case rel =>
         refine ⟨_, _, Sq, HE2.out.symm, ?_, HOK2.out, HWl.out HZ.out, ?_, ?_, HN.out⟩
         ·rw [hl2]; omega
         ·rw [HWd.out]; exact HDk.out
         ·rw [hl2]; omega
  | succ j =>
   rw [show (((j + 1 : Nat) : Int) - 1) = (j : Int) by omega]
   have hj2 : j < 2 := by omega
   have cL := hcd.out _ HO.out
   by_cases hjn : j < nd
   ·have CRj := Lib.hid (CR.out wr j hjn HO.out)
    have CSj := Lib.hid (fun W => CS.out W j hjn)
    have hjn' : (j : Int) < (nd : Int) := by omega
    go_wp2_with fail
    refine CRj.out.mono ?_
    rintro e w1 ⟨rfl, rfl⟩
    go_wp2_with fail
    refine (CSj.out _).mono ?_
    rintro e w3 ⟨x0, x1, x2, x3, b, rfl, hb3, hcase⟩
    have HC := Lib.hid hcase
    have HB3 := Lib.hid hb3
    clear hcase hb3
    have HJ3 := Lib.hid (HJ.out.below HB3.out)
    have HO3 : Hid (Only (fun k => k = a) X w3) := HO.out.trans (Only.of_below (fun _ => False) HB3.out (Nat.le_refl _)) (fun _ _ f => f.elim)
    have hal3 := HJ3.out.lt
    clear HB3 HJ HO cL CRj CSj
    cases b
    ·have HE : Hid (D.bestV (2 - j) = D.bestV (2 - (j + 1))) := by
      show _ = _
      have hs : D.slotAt j = none := by
       rcases HC.out with ⟨h, _⟩ | ⟨y, _, h, _⟩
       ·exact h
       ·cases h
      have := bestV_none D (1 - j) (by omega) (by rw [show 1 - (1 - j) = j by omega]; exact hs)
      rw [show 2 - j = 1 - j + 1 by omega, this, show 2 - (j + 1) = 1 - j by omega]
     clear HC
     go_wp2_with fail
     go_quiet (fail)
     go_wp2
     go_roundw
     case rel =>
      have hb : Below w3.heap.size w3 ((w3.alloc (.cells #[.int .u64 x0, .int .u64 x1, .int .i64 x2, .int .i64 x3] 134)).drewN nq) := Fr.below_drewN ((Below.refl _ _).alloc (Nat.le_refl _) _) _
      exact ⟨j, by omega, rfl, by show VJr _ _ _ _; rw [HE.out]; exact HJ3.out.below hb, HO3.out.trans (Only.of_below (fun _ => False) hb (Nat.le_refl _)) (fun _ _ f => f.elim)⟩
     case measure => simp [intOf]
    ·obtain ⟨y, hy, _, rfl, rfl, rfl, rfl⟩ : ∃ y, D.slotAt j = some y /\ true = true /\ x0 = (y.1 : Int) /\ x1 = (y.2.1 : Int) /\ x2 = (y.2.2.1 : Int) /\ x3 = (y.2.2.2 : Int) := by
      rcases HC.out with ⟨_, h⟩ | h
      ·cases h
      ·exact h
     clear HC
     have HBs : Hid (D.bestV (2 - j) = match D.bestV (2 - (j + 1)) with | none => some (y, j) | some z => if z.1.1 <= y.1 then some (y, j) else some z) := by
      show _ = _
      have := bestV_some D (1 - j) (by omega) (x := y) (by rw [show 1 - (1 - j) = j by omega]; exact hy)
      rw [show 2 - j = 1 - j + 1 by omega, this, show 2 - (j + 1) = 1 - j by omega, show 1 - (1 - j) = j by omega]
      cases D.bestV (1 - j) <;> rfl
     clear hy
     obtain ⟨xe, xs, xl, xp⟩ := y
     simp only
     obtain ⟨Y, hY⟩ : ∃ Y, w3.alloc (.cells #[.int .u64 (xe : Int), .int .u64 (xs : Int), .int .i64 (xl : Int), .int .i64 (xp : Int)] 134) = Y := ⟨_, rfl⟩
     have hYb : Below w3.heap.size w3 Y := by rw [<- hY]; exact (Below.refl _ _).alloc (Nat.le_refl _) _
     have hYh : Y.heap[w3.heap.size]? = some (.cells #[.int .u64 (xe : Int), .int .u64 (xs : Int), .int .i64 (xl : Int), .int .i64 (xp : Int)] 134 (0, 0)) := by rw [<- hY, heap_alloc_new]
     have k0 : Y.cell? ⟨w3.heap.size, 0, none⟩ = some (.int .u64 (xe : Int)) := by rw [cell_at hYh]; rfl
     have k1 : Y.cell? ⟨w3.heap.size, 1, none⟩ = some (.int .u64 (xs : Int)) := by rw [cell_at hYh]; rfl
     have k2 : Y.cell? ⟨w3.heap.size, 2, none⟩ = some (.int .i64 (xl : Int)) := by rw [cell_at hYh]; rfl
     have k3 : Y.cell? ⟨w3.heap.size, 3, none⟩ = some (.int .i64 (xp : Int)) := by rw [cell_at hYh]; rfl
     have HJY := Lib.hid (HJ3.out.below hYb)
     have HOY : Hid (Only (fun k => k = a) X Y) := HO3.out.trans (Only.of_below (fun _ => False) hYb (Nat.le_refl _)) (fun _ _ f => f.elim)
     have HY := Lib.hid hY
     have hne : w3.heap.size ≠ a := by omega
     clear hY hYb hYh HJ3 HO3
     have X1 := HJY.out.c1; have X2 := HJY.out.c2; have X3 := HJY.out.c3; have X4 := HJY.out.c4; have X5 := HJY.out.c5
     have F1 := HJY.out.f 1; have F2 := HJY.out.f 2; have F3 := HJY.out.f 3; have F4 := HJY.out.f 4; have F5 := HJY.out.f 5
     cases hbk : D.bestV (2 - (j + 1)) with
     | none =>
      rw [hbk] at HBs HJY X1 X2 X3 X4 X5
      have HBn : Hid (D.bestV (2 - j) = some ((xe, xs, xl, xp), j)) := HBs.out
      simp only [v1, v2, v3, v4, v5] at X1 X2 X3 X4 X5
      clear HBs hbk
      go_wp2_with fail
      rw [HY.out]
      go_quiet (fail)
      go_wp2
      go_roundw
      case rel => exact ⟨j, by omega, rfl, by show VJr _ _ _ _; rw [HBn.out]; exact (HJY.out.sl (xe, xs, xl, xp) j).below (Fr.below_drewN (Below.refl _ _) _), (HOY.out.trans (sl_only Y a (xe, xs, xl, xp) j) (fun _ _ h => h)).trans (Only.of_below (fun _ => False) (Fr.below_drewN (Below.refl _ _) _) (Nat.le_refl _)) (fun _ _ f => f.elim)⟩
      case measure => simp [intOf]
     | some z =>
      obtain ⟨⟨ye, ys, yl, yp⟩, yi⟩ := z
      rw [hbk] at HBs HJY X1 X2 X3 X4 X5
      simp only [v1, v2, v3, v4, v5] at X1 X2 X3 X4 X5
      have hyi : ¬ ((yi : Int) < 0) := by omega
      have hyd : decide ((yi : Int) < 0) = false := decide_eq_false hyi
      by_cases hg : ye <= xe
      ·have HBn : Hid (D.bestV (2 - j) = some ((xe, xs, xl, xp), j)) := by
        show _ = _; rw [HBs.out]; show (if ye <= xe then _ else _) = _; rw [if_pos hg]
       have hg' : (ye : Int) <= (xe : Int) := by omega
       have hgd : decide ((ye : Int) <= (xe : Int)) = true := decide_eq_true hg'
       clear HBs hbk
       go_wp2_with fail
       rw [HY.out]
       go_quiet (fail)
       go_wp2
       go_roundw
       case rel => exact ⟨j, by omega, rfl, by show VJr _ _ _ _; rw [HBn.out]; exact (HJY.out.sl (xe, xs, xl, xp) j).below (Fr.below_drewN (Below.refl _ _) _), (HOY.out.trans (sl_only Y a (xe, xs, xl, xp) j) (fun _ _ h => h)).trans (Only.of_below (fun _ => False) (Fr.below_drewN (Below.refl _ _) _) (Nat.le_refl _)) (fun _ _ f => f.elim)⟩
       case measure => simp [intOf]
      ·have HBn : Hid (D.bestV (2 - j) = some ((ye, ys, yl, yp), yi)) := by
        show _ = _; rw [HBs.out]; show (if ye <= xe then _ else _) = _; rw [if_neg hg]
       have hg' : ¬ (ye : Int) <= (xe : Int) := by omega
       have hgd : decide ((ye : Int) <= (xe : Int)) = false := decide_eq_false hg'
       clear HBs hbk
       go_wp2_with fail
       rw [HY.out]
       go_quiet (fail)
       go_wp2
       go_roundw
       case rel => exact ⟨j, by omega, rfl, by show VJr _ _ _ _; rw [HBn.out]; exact HJY.out.below (Fr.below_drewN (Below.refl _ _) _), HOY.out.trans (Only.of_below (fun _ => False) (Fr.below_drewN (Below.refl _ _) _) (Nat.le_refl _)) (fun _ _ f => f.elim)⟩
       case measure => simp [intOf]
   ·have hjn' : ¬ (j : Int) < (nd : Int) := by omega
    have HE : Hid (D.bestV (2 - j) = D.bestV (2 - (j + 1))) := by
     show _ = _
     have := bestV_none D (1 - j) (by omega) (by rw [show 1 - (1 - j) = j by omega]; exact HSn.out j (by omega))
     rw [show 2 - j = 1 - j + 1 by omega, this, show 2 - (j + 1) = 1 - j by omega]
    go_wp2
    go_roundw
    case rel => exact ⟨j, by omega, rfl, by show VJr _ _ _ _; rw [HE.out]; exact HJ.out, HO⟩
    case measure => simp [intOf]
theorem vopen_any (hd : RStands S w r D) (hp : D.pend.length <= 600000) : Calls Tryz.prog 77 #[.pointer (some ⟨r, 0, none⟩)] w fun e w' => VOpened S w w' r D.opn e := by
 cases hde : D.dead with
 | true => exact vopen_dead hd hde
 | false => exact vopen_live hd hde hp
end
end Go.Proofs.YthambopnmhkeeaaGreat
