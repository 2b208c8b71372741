/- A device and the document's device side by side: what is done to the one leaves the other alone. -/
import Derived.Test.YtepfcaopboenpaaGreatZVOpen
import Derived.Test.YtepfcaopboenpaaGreatZJSafe3
import Derived.Test.YtepfcaopboenpaaGreatZAt
import Derived.Test.YtepfcaopboenpaaGreatZLHelp
import Derived.Test.YtepfcaopboenpaaGreatZVCkp
import Derived.Test.YtepfcaopboenpaaGreatZVFrame
import Derived.Test.YtepfcaopboenpaaGreatZJNext

namespace Go.Proofs.YtepfcaopboenpaaGreat
open Go.RowKit
open Fr (SlS)

/-- Behind world w0 block p is a device that says D, block r the document's, that says E; what was there in w0 is as it was. -/
structure Bo (w0 w : World) (S1 S2 : Nat → Prop) (p : Nat) (D : DevS) (r : Nat) (E : DevS) : Prop where
  d : Stands S1 w p D
  e : RStands S2 w r E
  dis : ∀ k, S1 k → ¬ S2 k
  o1 : ∀ k, S1 k → w0.heap.size ≤ k
  o2 : ∀ k, S2 k → w0.heap.size ≤ k
  bel : Below w0.heap.size w0 w
section
variable {w0 w w' : World} {S1 S2 : Nat → Prop} {p r : Nat} {D E D' E' : DevS}
theorem Bo.below (h : Bo w0 w S1 S2 p D r E) (hb : Below w.heap.size w w') : Bo w0 w' S1 S2 p D r E :=
  ⟨h.d.below hb, h.e.below hb, h.dis, h.o1, h.o2, h.bel.trans (hb.mono h.bel.size)⟩
theorem below_only {T : Nat → Prop} (h : Below w0.heap.size w0 w) (ho : Only T w w') (hT : ∀ k, T k → w0.heap.size ≤ k) : Below w0.heap.size w0 w' := by
  refine ⟨ho.os.trans h.os, ho.tape.trans h.tape, ho.output.trans h.output, Nat.le_trans h.size ho.size, fun k hk => ?_⟩
  rw [ho.block k (Nat.lt_of_lt_of_le hk h.size) (fun ht => by have := hT k ht; omega), h.block k hk]
theorem Bo.one (h : Bo w0 w S1 S2 p D r E) {S : Nat → Prop} (hS : ∀ k, S k → S1 k ∨ w.heap.size ≤ k) (hd : Stands S w' p D') (ho : Only S1 w w') : Bo w0 w' S S2 p D' r E := by
  refine ⟨hd, h.e.kept ho (fun k hk h1 => h.dis k h1 hk), fun k hk h2 => ?_, fun k hk => ?_, h.o2, below_only h.bel ho h.o1⟩
  · rcases hS k hk with h1 | h1
    · exact h.dis k h1 h2
    · have := h.e.lt k h2; omega
  · rcases hS k hk with h1 | h1
    · exact h.o1 k h1
    · exact Nat.le_trans h.bel.size h1
theorem Bo.two (h : Bo w0 w S1 S2 p D r E) {S : Nat → Prop} (hS : ∀ k, S k → S2 k ∨ w.heap.size ≤ k) (hd : RStands S w' r E') (ho : Only S2 w w') : Bo w0 w' S1 S p D r E' := by
  refine ⟨h.d.kept ho (fun k hk h1 => h.dis k hk h1), hd, fun k hk h2 => ?_, h.o1, fun k hk => ?_, below_only h.bel ho h.o2⟩
  · rcases hS k h2 with h1 | h1
    · exact h.dis k hk h1
    · have := h.d.lt k hk; omega
  · rcases hS k hk with h1 | h1
    · exact h.o2 k h1
    · exact Nat.le_trans h.bel.size h1
theorem Bo.write (h : Bo w0 w S1 S2 p D r E) (i : Int) (s : ByteArray) (hp : D.pend.length ≤ 1000000) : Calls Tryz.prog 85 #[.pointer (some ⟨p, 0, none⟩), .int .i64 i, .string s] w fun e w' => e = .returned (.int .i64 (D.wr i s).1) ∧ ∃ S, Bo w0 w' S S2 p (D.wr i s).2 r E :=
  (write_any i s hp h.d).mono fun e w' ⟨he, S, h1, h2, h3⟩ => ⟨he, S, h.one h1 h2 h3⟩
theorem Bo.rwrite (h : Bo w0 w S1 S2 p D r E) (i : Int) (s : ByteArray) (hp : E.pend.length ≤ 1000000) : Calls Tryz.prog 31 #[.pointer (some ⟨r, 0, none⟩), .int .i64 i, .string s] w fun e w' => e = .returned (.int .i64 (E.wr i s).1) ∧ ∃ S, Bo w0 w' S1 S p D r (E.wr i s).2 :=
  (rwrite_any i s hp h.e).mono fun e w' ⟨he, S, h1, h2, h3⟩ => ⟨he, S, h.two h1 h2 h3⟩
theorem opn_pend (D : DevS) : D.opn.2.1.pend.length ≤ D.pend.length + D.disk.length + 2 := by
  unfold DevS.opn
  split
  · show D.pend.length ≤ _; omega
  · split
    · show D.pend.length ≤ _; omega
    · rename_i J hJ
      obtain ⟨ok, _⟩ := find_ok hJ
      obtain ⟨h1, h2, h3⟩ := redoN_keeps (J.log + 1) J D ok
      have hl : J.left ≤ J.log := Nat.sub_le _ _
      have hl1 := ok.l1
      have e : J.redo D = J.redoN D (J.log + 1) := rfl
      simp only
      rw [e]
      split
      · show (J.redoN D (J.log + 1)).2.1.pend.length ≤ _; omega
      · have hc := JS.ckp_len (J := (J.redoN D (J.log + 1)).2.2) (D := (J.redoN D (J.log + 1)).2.1)
        split
        · show ((J.redoN D (J.log + 1)).2.2.ckp (J.redoN D (J.log + 1)).2.1).2.1.pend.length ≤ _; omega
        · show ((J.redoN D (J.log + 1)).2.2.ckp (J.redoN D (J.log + 1)).2.1).2.1.pend.length ≤ _; omega
/-- Open errs, and there is no journal; or it does not, and there is one. -/
theorem opn_cases (D : DevS) : (D.opn.2.2 = none ∧ D.opn.1 ≠ 0) ∨ (∃ J, D.opn.2.2 = some J ∧ D.opn.1 = 0) := by
  unfold DevS.opn
  split
  · left; exact ⟨rfl, by simp⟩
  · split
    · left; exact ⟨rfl, by simp⟩
    · simp only
      split
      · rename_i h; left; exact ⟨rfl, h⟩
      · split
        · rename_i h; left; exact ⟨rfl, h⟩
        · right; exact ⟨_, rfl, rfl⟩
end
end Go.Proofs.YtepfcaopboenpaaGreat
/- The document's own journal: what log answers and leaves behind: a frame is laid behind those that are there. -/
namespace Go.Proofs.YtepfcaopboenpaaGreat
open Go.RowKit
open Fr (StrsAt)

section
variable {S : Nat → Prop} {w w' w1 : World} {a r : Nat} {J : JS} {D D1 : DevS} {top : ByteArray} {ds : List ByteArray}
theorem RJ.leavesB {w0 : World} {T : Nat → Prop} (h : RJ w0 w S a r J D T) (hl : RLeaves S w w1 r D1) (g : Nat) (hg : g < w.heap.size) (hs : ¬ S g) : ∃ S', RJ w0 w1 S' a r J D1 T ∧ ¬ S' g ∧ w1.heap[g]? = w.heap[g]? ∧ g < w1.heap.size := by
  obtain ⟨S', hS', hst, ho⟩ := hl
  have hla := h.jr.lt
  refine ⟨S', ⟨h.jr.only ho h.na, hst, fun hk => ?_, fun k hk => ?_, h.only.trans ho (fun i hi hs => ?_)⟩, fun hk => ?_, ho.block g hg hs, Nat.lt_of_lt_of_le hg ho.size⟩
  · rcases hS' a hk with h1 | h1
    · exact h.na h1
    · omega
  · rcases hS' k hk with h1 | h1
    · exact h.own k h1
    · exact .inr (Nat.le_trans h.only.size h1)
  · rcases h.own i hs with h1 | h1
    · exact .inl h1
    · omega
  · rcases hS' g hk with h1 | h1
    · exact hs h1
    · omega
/-- Writes one by one: the first error ends them. -/
theorem wrs_snoc_err (D : DevS) (l : List (Int × ByteArray)) (x : Int × ByteArray) (m : List (Int × ByteArray)) (h : (D.wrs l).1 = 0) (he : ((D.wrs l).2.wr x.1 x.2).1 ≠ 0) : D.wrs (l ++ [x] ++ m) = (D.wrs l).2.wr x.1 x.2 := by
  rw [DevS.wrs_err D (l ++ [x]) m (by rw [DevS.wrs_snoc D l x h]; exact he), DevS.wrs_snoc D l x h]
/-- A frame's data that is laid up to a block that fails. -/
theorem addF_data_err (J : JS) (D : DevS) (top : ByteArray) (ds : List ByteArray) (k : Nat) (hk : k < ds.length) (h0 : (D.wrs (J.dataK ds k)).1 = 0) (he : ((D.wrs (J.dataK ds k)).2.wr ((J.pos (k + 1) : Nat) : Int) (ds.getD k ByteArray.empty)).1 ≠ 0) :
    (J.addF D top ds).1 = ((D.wrs (J.dataK ds k)).2.wr ((J.pos (k + 1) : Nat) : Int) (ds.getD k ByteArray.empty)).1 ∧ (J.addF D top ds).2.1 = ((D.wrs (J.dataK ds k)).2.wr ((J.pos (k + 1) : Nat) : Int) (ds.getD k ByteArray.empty)).2 := by
  have hd : ∃ m, J.dataW ds = J.dataK ds k ++ [(((J.pos (k + 1) : Nat) : Int), ds.getD k ByteArray.empty)] ++ m := by
    rw [← dataK_succ]
    obtain ⟨d, hd⟩ : ∃ d, ds.length = k + 1 + d := ⟨ds.length - (k + 1), by omega⟩
    refine ⟨((List.range d).map fun i => (((J.pos (k + 1 + i + 1) : Nat) : Int), ds.getD (k + 1 + i) ByteArray.empty)) ++ [(((J.pos (ds.length + 1) : Nat) : Int), noughts)], ?_⟩
    rw [dataW_eq, ← List.append_assoc]
    congr 1
    unfold JS.dataK
    rw [hd, List.range_add, List.map_append, List.map_map]
    rfl
  obtain ⟨m, hm⟩ := hd
  have hw := wrs_snoc_err D (J.dataK ds k) (((J.pos (k + 1) : Nat) : Int), ds.getD k ByteArray.empty) m h0 he
  simp only at hw
  have hs : D.stl (J.dataW ds) = (D.wrs (J.dataK ds k)).2.wr ((J.pos (k + 1) : Nat) : Int) (ds.getD k ByteArray.empty) := by
    unfold DevS.stl
    rw [hm, hw, if_pos he]
  unfold JS.addF
  simp only [hs]
  rw [if_pos he]
  exact ⟨rfl, rfl⟩
/-- The four last calls of log. -/
def logR (R1 R2 R3 R4 : Int × DevS) : Int × DevS := if R1.1 ≠ 0 then R1 else if R2.1 ≠ 0 then R2 else if R3.1 ≠ 0 then R3 else R4
theorem addF_end (J : JS) (D : DevS) (top : ByteArray) (ds : List ByteArray) (h0 : (D.wrs (J.dataK ds ds.length)).1 = 0) {R1 R2 R3 R4 : Int × DevS} (h1 : (D.wrs (J.dataK ds ds.length)).2.wr ((J.pos (ds.length + 1) : Nat) : Int) noughts = R1) (h2 : R1.2.fl = R2) (h3 : R2.2.wr ((J.pos 0 : Nat) : Int) top = R3) (h4 : R3.2.fl = R4) :
    (J.addF D top ds).1 = (logR R1 R2 R3 R4).1 ∧ (J.addF D top ds).2.1 = (logR R1 R2 R3 R4).2 := by
  have hw : D.wrs (J.dataW ds) = R1 := by rw [dataW_eq, DevS.wrs_snoc D _ _ h0]; exact h1
  have hs : D.stl (J.dataW ds) = if R1.1 ≠ 0 then R1 else R2 := by unfold DevS.stl; rw [hw, h2]
  unfold JS.addF logR
  simp only [hs]
  by_cases e1 : R1.1 ≠ 0
  · simp only [if_pos e1]; first | exact ⟨rfl, rfl⟩ | exact ⟨trivial, trivial⟩
  · simp only [if_neg e1]
    by_cases e2 : R2.1 ≠ 0
    · simp only [if_pos e2]; first | exact ⟨rfl, rfl⟩ | exact ⟨trivial, trivial⟩
    · simp only [if_neg e2, stl1, h3, h4]
      by_cases e3 : R3.1 ≠ 0
      · simp only [if_pos e3]; first | exact ⟨rfl, rfl⟩ | exact ⟨trivial, trivial⟩
      · simp only [if_neg e3]
        by_cases e4 : R4.1 ≠ 0
        · simp only [if_pos e4]; first | exact ⟨rfl, rfl⟩ | exact ⟨trivial, trivial⟩
        · simp only [if_neg e4]
          have e5 := Classical.not_not.1 e4
          refine ⟨?_, ?_⟩ <;> first | exact e5.symm | rfl | trivial

set_option maxRecDepth 100000 in
set_option maxHeartbeats 4000000 in
theorem vlog_any (b off c : Nat) (hj : Jr 57 w a r J) (hd : RStands S w r D) (ha : ¬ S a) (ok : J.Ok D.disk.length) (hp : D.pend.length ≤ 800000) (hl : ds.length ≤ 48) (hf : J.full + ds.length + 1 ≤ J.log)
    (hb : b < w.heap.size) (hc : StrsAt w b off (top :: ds)) (hsb : ¬ S b) :
    Calls Tryz.prog 42 #[.pointer (some ⟨a, 0, none⟩), .slice (some ⟨b, off, none⟩) (ds.length + 1) c] w fun e w' => e = .returned (.int .i64 (J.addF D top ds).1) ∧ RJLeaves S w w' a r (J.addF D top ds).2.1 J := by
  have hn := hd.ok.few
  have hll := ok.l1
  have HJ0 := Lib.hid (RJ.start hj hd ha)
  have hal := hj.lt
  have HC0 : Hid (∀ W : World, W.heap[b]? = w.heap[b]? → W.cell? ⟨b, off, none⟩ = some (.string top)) := fun W hW => (World.cell?_of_block (w := w) (a := ⟨b, off, none⟩) hW).trans (hc 0 (by simp))
  have HCk : Hid (∀ W : World, W.heap[b]? = w.heap[b]? → ∀ i, 1 ≤ i → i ≤ ds.length → W.cell? ⟨b, off + i, none⟩ = some (.string (ds.getD (i - 1) ByteArray.empty))) := fun W hW i h1 h2 => by
    refine (World.cell?_of_block (w := w) (a := ⟨b, off + i, none⟩) hW).trans ?_
    have := hc i (by simp; omega)
    rw [this]
    obtain ⟨k, rfl⟩ : ∃ k, i = k + 1 := ⟨i - 1, by omega⟩
    simp [show k < ds.length by omega]
  have CP : Hid (∀ W, Jr 57 W a r J → ∀ i : Nat, i ≤ 60 → Calls Tryz.prog 40 #[.pointer (some ⟨a, 0, none⟩), .int .i64 ((J.full : Int) + (i : Int))] W fun e w' => e = .returned (.int .i64 ((J.pos i : Nat) : Int)) ∧ w' = W.drew) := fun W hW i hi => by
    have := vplace_any (J.full + i) hW ok hn (by omega)
    rw [show ((J.full + i : Nat) : Int) = (J.full : Int) + (i : Int) by omega] at this
    rw [show J.pos i = 2 + (J.p + (J.full + i)) % J.log by unfold JS.pos; rw [Nat.add_assoc]]
    exact this
  have CP0 : Hid (∀ W, Jr 57 W a r J → Calls Tryz.prog 40 #[.pointer (some ⟨a, 0, none⟩), .int .i64 (J.full : Int)] W fun e w' => e = .returned (.int .i64 ((J.pos 0 : Nat) : Int)) ∧ w' = W.drew) := fun W hW => vplace_any J.full hW ok hn (by omega)
  have CN := Lib.hid rnoughts_any
  have HERR := Lib.hid fun k hk h0 he => addF_data_err J D top ds k hk h0 he
  have HEND := Lib.hid fun h0 R1 R2 R3 R4 h1 h2 h3 h4 => addF_end J D top ds h0 (R1 := R1) (R2 := R2) (R3 := R3) (R4 := R4) h1 h2 h3 h4
  have HSUC := Lib.hid (dataK_succ J ds)
  have HLEN := Lib.hid (dataK_len J ds)
  have HOK := Lib.hid ok
  have HSB := Lib.hid hsb
  clear hj hd ha ok hc hsb
  generalize J.addF D top ds = AF at *
  obtain ⟨n, hnn⟩ : ∃ n, ds.length = n := ⟨_, rfl⟩
  rw [hnn] at hl hf HCk HERR HEND ⊢
  clear hnn
  go_enter Tryz.func42, Tryz.ntmps42
  go_wp2_with fail
  go_loopw [5] (fun t wr => ∃ (i : Nat) (S' : Nat → Prop), 1 ≤ i ∧ i ≤ n + 1 ∧ t = .int .i64 (i : Int) ∧ Hid ((D.wrs (J.dataK ds (i - 1))).1 = 0) ∧ Hid (RJ w wr S' a r J (D.wrs (J.dataK ds (i - 1))).2 S) ∧ Hid (¬ S' b) ∧ Hid (wr.heap[b]? = w.heap[b]?) ∧ b < wr.heap.size) (fun t _ => n + 1 - (intOf t).toNat)
  case atStart => exact ⟨1, S, Nat.le_refl _, by omega, rfl, rfl, HJ0, HSB, rfl, hb⟩
  case round =>
    obtain ⟨i, S1, hi1, hi2, rfl, HZ, HR, HB1, HH, hbl⟩ := hrel
    have hpe : (D.wrs (J.dataK ds (i - 1))).2.pend.length ≤ 800060 := by
      have := D.wrs_len (J.dataK ds (i - 1))
      rw [HLEN.out] at this; omega
    by_cases hlt : i < n + 1
    · have c0 := HR.out.jr.c0; have c7 := HR.out.jr.c7
      have y0 := HCk.out wr HH.out i hi1 (by omega)
      have HS2 := HSUC.out (i - 1)
      rw [show i - 1 + 1 = i by omega] at HS2
      have HE := HERR.out (i - 1) (by omega)
      rw [show i - 1 + 1 = i by omega] at HE
      have HS3 := Lib.hid HS2; have HE3 := Lib.hid HE
      clear HS2 HE
      have CPi := Lib.hid fun W hW => CP.out W hW i (by omega)
      have ws : IntKind.i64.wrap ((J.full : Int) + (i : Int)) = (J.full : Int) + (i : Int) := IntWalk.i64_in _ (by omega)
      generalize ds.getD (i - 1) ByteArray.empty = pt at *
      generalize J.pos i = ps at *
      have HWS := Lib.hid fun h0 => DevS.wrs_snoc D (J.dataK ds (i - 1)) ((ps : Int), pt) h0
      rw [← HS3.out] at HWS
      simp only at HWS HE3
      generalize D.wrs (J.dataK ds (i - 1)) = Q at *
      obtain ⟨Q1, Q2⟩ := Q
      simp only at HZ HR hpe HWS HE3
      obtain ⟨R, hR⟩ : ∃ R, Q2.wr (ps : Int) pt = R := ⟨_, rfl⟩
      rw [hR] at HWS HE3
      have CW : Hid (∀ W, Below wr.heap.size wr W → Calls Tryz.prog 31 #[.pointer (some ⟨r, 0, none⟩), .int .i64 (ps : Int), .string pt] W fun e w' => e = .returned (.int .i64 R.1) ∧ ∃ S', RJ w w' S' a r J R.2 S ∧ ¬ S' b ∧ w'.heap[b]? = w.heap[b]? ∧ b < w'.heap.size) := fun W hW => by
        have h2 := HR.out.below hW
        have hgW : b < W.heap.size := Nat.lt_of_lt_of_le hbl hW.size
        have := rwrite_any (ps : Int) pt (by omega) h2.dev
        rw [hR] at this
        refine this.mono fun e w' ⟨he, hl⟩ => ?_
        obtain ⟨S', j1, j2, j3, j4⟩ := h2.leavesB hl b hgW HB1.out
        exact ⟨he, S', j1, j2, by rw [j3, hW.block b hbl]; exact HH.out, j4⟩
      have HK : Hid (∀ W : World, Jr 57 W a r J → W.heap[b]? = w.heap[b]? → W.cell? ⟨a, 0, none⟩ = some (.pointer (some ⟨r, 0, none⟩)) ∧ W.cell? ⟨a, 7, none⟩ = some (.int .i64 (J.full : Int)) ∧ W.cell? ⟨b, off + i, none⟩ = some (.string pt)) := fun W h1 h2 =>
        ⟨h1.c0, h1.c7, (World.cell?_of_block (w := wr) (a := ⟨b, off + i, none⟩) (h2.trans HH.out.symm)).trans y0⟩
      have HJr := Lib.hid HR.out.jr
      clear hR
      obtain ⟨er, DR⟩ := R
      simp only at CW HWS HE3
      go_wp2_with fail
      go_region_held3 (fun W => W.cell? ⟨a, 0, none⟩ = some (.pointer (some ⟨r, 0, none⟩)) ∧ W.cell? ⟨a, 7, none⟩ = some (.int .i64 (J.full : Int)) ∧ W.cell? ⟨b, off + i, none⟩ = some (.string pt))
        (first | exact ⟨c0, c7, y0⟩ | assumption)
        (first
          | (go_at_call 40; (with_reducible refine (CPi.out _ (HJr.out.below ((Below.refl _ _).drew))).mono ?_); rintro e w1 ⟨rfl, rfl⟩)
          | (go_at_call 31; (with_reducible refine (CW.out _ ((Below.refl _ _).drew.drew)).mono ?_); rintro e w6 ⟨rfl, S6, hr6, hg6, hh6, hgl6⟩; have hk6 := HK.out w6 hr6.jr hh6))
      have HR6 := Lib.hid hr6; have HG6 := Lib.hid hg6; have HH6 := Lib.hid hh6
      clear hr6 hg6 hh6 hk6 CW HK y0 c0 c7 HR HB1 HH ws
      by_cases her : er = 0
      · have her' : (er != 0) = false := by simp [her]
        have HN : Hid (D.wrs (J.dataK ds i) = (er, DR)) := HWS.out HZ.out
        clear HE3 HWS
        go_wp2
        go_roundw
        case rel => exact ⟨i + 1, S6, by omega, by omega, by go_num, by show _ = _; rw [Nat.add_sub_cancel, HN.out]; exact her, by show RJ _ _ _ _ _ _ _ _; rw [Nat.add_sub_cancel, HN.out]; exact HR6.out, HG6, HH6, hgl6⟩
        case measure => simp [intOf]; omega
      · have her' : (er != 0) = true := by simp [her]
        have HF : Hid (AF.1 = er ∧ AF.2.1 = DR) := HE3.out HZ.out her
        clear HE3 HWS
        go_wp2
        go_ret
        exact ⟨by rw [HF.out.1]; rfl, by rw [HF.out.2]; exact HR6.out.ends⟩
    · obtain rfl : i = n + 1 := by omega
      rw [Nat.add_sub_cancel] at HZ HR hpe
      have HE0 := Lib.hid (HEND.out HZ.out)
      clear HEND HERR HSUC HLEN HCk
      generalize D.wrs (J.dataK ds n) = Q at *
      obtain ⟨Q1, Q2⟩ := Q
      simp only at HZ HR hpe HE0
      obtain ⟨R1, h1⟩ : ∃ R, Q2.wr ((J.pos (n + 1) : Nat) : Int) noughts = R := ⟨_, rfl⟩
      obtain ⟨R2, h2⟩ : ∃ R, R1.2.fl = R := ⟨_, rfl⟩
      obtain ⟨R3, h3⟩ : ∃ R, R2.2.wr ((J.pos 0 : Nat) : Int) top = R := ⟨_, rfl⟩
      obtain ⟨R4, h4⟩ : ∃ R, R3.2.fl = R := ⟨_, rfl⟩
      have HF := Lib.hid (HE0.out R1 R2 R3 R4 h1 h2 h3 h4)
      have p1 : R1.2.pend.length ≤ 800061 := by rw [← h1]; have := Q2.wr_len ((J.pos (n + 1) : Nat) : Int) noughts; omega
      have p2 : R2.2.pend.length ≤ 800061 := by rw [← h2]; have := R1.2.fl_len; omega
      have p3 : R3.2.pend.length ≤ 800062 := by rw [← h3]; have := R2.2.wr_len ((J.pos 0 : Nat) : Int) top; omega
      have H1 := Lib.hid h1; have H2 := Lib.hid h2; have H3 := Lib.hid h3; have H4 := Lib.hid h4
      clear h1 h2 h3 h4 HE0
      obtain ⟨e1, D1⟩ := R1
      obtain ⟨e2, D2⟩ := R2
      obtain ⟨e3, D3⟩ := R3
      obtain ⟨e4, D4⟩ := R4
      simp only at p1 p2 p3 H1 H2 H3 H4
      have CPn := Lib.hid fun W hW => CP.out W hW (n + 1) (by omega)
      rw [show ((n + 1 : Nat) : Int) = (n : Int) + 1 by omega] at CPn
      have ws : IntKind.i64.wrap ((J.full : Int) + ((n : Int) + 1)) = (J.full : Int) + ((n : Int) + 1) := IntWalk.i64_in _ (by omega)
      generalize J.pos (n + 1) = ps at *
      generalize J.pos 0 = p0 at *
      obtain ⟨NT, hNT⟩ : ∃ T, noughts = T := ⟨_, rfl⟩
      rw [hNT] at H1 CN
      clear hNT CP
      have c0 := HR.out.jr.c0; have c7 := HR.out.jr.c7
      have hal1 := HR.out.jr.lt
      have HJr := Lib.hid HR.out.jr
      have CW1 : Hid (∀ W, Below wr.heap.size wr W → Calls Tryz.prog 31 #[.pointer (some ⟨r, 0, none⟩), .int .i64 (ps : Int), .string NT] W fun e w' => e = .returned (.int .i64 e1) ∧ ∃ S', RJ w w' S' a r J D1 S ∧ ¬ S' b ∧ w'.heap[b]? = w.heap[b]? ∧ b < w'.heap.size) := fun W hW => by
        have h2 := HR.out.below hW
        have hgW : b < W.heap.size := Nat.lt_of_lt_of_le hbl hW.size
        have := rwrite_any (ps : Int) NT (by omega) h2.dev
        rw [H1.out] at this
        refine this.mono fun e w' ⟨he, hl⟩ => ?_
        obtain ⟨S', j1, j2, j3, j4⟩ := h2.leavesB hl b hgW HB1.out
        exact ⟨he, S', j1, j2, by rw [j3, hW.block b hbl]; exact HH.out, j4⟩
      go_wp2_with fail
      go_region_held3 (fun W => W.cell? ⟨a, 0, none⟩ = some (.pointer (some ⟨r, 0, none⟩)) ∧ W.cell? ⟨a, 7, none⟩ = some (.int .i64 (J.full : Int)))
        (first | exact ⟨c0, c7⟩ | assumption)
        (first
          | (go_at_call 40; (with_reducible refine (CPn.out _ (HJr.out.below ((Below.refl _ _).drew))).mono ?_); rintro e w1 ⟨rfl, rfl⟩)
          | (go_at_call 30; refine (CN.out _).mono ?_; rintro e w2 ⟨rfl, hb2'⟩; have hb2 : Below wr.heap.size wr w2 := Fr.below_predrew (Fr.below_predrew hb2'); have hh2 : w2.cell? ⟨a, 0, none⟩ = some (.pointer (some ⟨r, 0, none⟩)) ∧ w2.cell? ⟨a, 7, none⟩ = some (.int .i64 (J.full : Int)) := ⟨(hb2.cell (p := ⟨a, 0, none⟩) hal1).trans c0, (hb2.cell (p := ⟨a, 7, none⟩) hal1).trans c7⟩)
          | (go_at_call 31; (with_reducible refine (CW1.out _ hb2).mono ?_); rintro e w3 ⟨rfl, S3, hr3, hg3, hx3, hl3⟩; have hh3 : w3.cell? ⟨a, 0, none⟩ = some (.pointer (some ⟨r, 0, none⟩)) ∧ w3.cell? ⟨a, 7, none⟩ = some (.int .i64 (J.full : Int)) := ⟨hr3.jr.c0, hr3.jr.c7⟩))
      have HR3 := Lib.hid hr3; have HG3 := Lib.hid hg3; have HX3 := Lib.hid hx3
      clear hr3 hg3 hx3 hh3 hh2 hb2' hb2 CPn CW1 CN c0 c7 ws HR HB1 HH HJr
      by_cases he1 : e1 = 0
      · have b1 : (e1 != 0) = false := by simp [he1]
        have c0 := HR3.out.jr.c0
        have CF : Hid (Calls Tryz.prog 33 #[.pointer (some ⟨r, 0, none⟩)] w3 fun e w' => e = .returned (.int .i64 e2) ∧ ∃ S', RJ w w' S' a r J D2 S ∧ ¬ S' b ∧ w'.heap[b]? = w.heap[b]? ∧ b < w'.heap.size) := by
          have := rflush_any (by omega) HR3.out.dev
          rw [H2.out] at this
          refine this.mono fun e w' ⟨he, hs, ho⟩ => ⟨he, ?_⟩
          obtain ⟨S', j1, j2, j3, j4⟩ := HR3.out.leavesB (.mk hs ho) b hl3 HG3.out
          exact ⟨S', j1, j2, by rw [j3]; exact HX3.out, j4⟩
        go_wp2_with fail
        refine CF.out.mono ?_
        rintro e w4 ⟨rfl, S4, hr4, hg4, hx4, hl4⟩
        have HR4 := Lib.hid hr4; have HG4 := Lib.hid hg4; have HX4 := Lib.hid hx4
        clear hr4 hg4 hx4 CF c0 HR3 HG3 HX3
        by_cases he2 : e2 = 0
        · have b2 : (e2 != 0) = false := by simp [he2]
          have c0 := HR4.out.jr.c0; have c7 := HR4.out.jr.c7
          have y0 := HC0.out w4 HX4.out
          have HJ4 := Lib.hid HR4.out.jr
          have CW3 : Hid (∀ W, Below w4.heap.size w4 W → Calls Tryz.prog 31 #[.pointer (some ⟨r, 0, none⟩), .int .i64 (p0 : Int), .string top] W fun e w' => e = .returned (.int .i64 e3) ∧ ∃ S', RJ w w' S' a r J D3 S ∧ ¬ S' b ∧ w'.heap[b]? = w.heap[b]? ∧ b < w'.heap.size) := fun W hW => by
            have h2 := HR4.out.below hW
            have hgW : b < W.heap.size := Nat.lt_of_lt_of_le hl4 hW.size
            have := rwrite_any (p0 : Int) top (by omega) h2.dev
            rw [H3.out] at this
            refine this.mono fun e w' ⟨he, hl⟩ => ?_
            obtain ⟨S', j1, j2, j3, j4⟩ := h2.leavesB hl b hgW HG4.out
            exact ⟨he, S', j1, j2, by rw [j3, hW.block b hl4]; exact HX4.out, j4⟩
          have HK : Hid (∀ W : World, Jr 57 W a r J → W.heap[b]? = w.heap[b]? → W.cell? ⟨a, 0, none⟩ = some (.pointer (some ⟨r, 0, none⟩)) ∧ W.cell? ⟨a, 7, none⟩ = some (.int .i64 (J.full : Int)) ∧ W.cell? ⟨b, off, none⟩ = some (.string top)) := fun W h1 h2 => ⟨h1.c0, h1.c7, HC0.out W h2⟩
          go_wp2_with fail
          go_region_held3 (fun W => W.cell? ⟨a, 0, none⟩ = some (.pointer (some ⟨r, 0, none⟩)) ∧ W.cell? ⟨a, 7, none⟩ = some (.int .i64 (J.full : Int)) ∧ W.cell? ⟨b, off, none⟩ = some (.string top))
            (first | exact ⟨c0, c7, y0⟩ | assumption)
            (first
              | (go_at_call 40; (with_reducible refine (CP0.out _ (HJ4.out.below ((Below.refl _ _).drew))).mono ?_); rintro e w1 ⟨rfl, rfl⟩)
              | (go_at_call 31; (with_reducible refine (CW3.out _ ((Below.refl _ _).drew.drew)).mono ?_); rintro e w5 ⟨rfl, S5, hr5, hg5, hx5, hl5⟩; have hk5 := HK.out w5 hr5.jr hx5))
          have HR5 := Lib.hid hr5; have HG5 := Lib.hid hg5; have HX5 := Lib.hid hx5
          clear hr5 hg5 hx5 hk5 CW3 HK y0 c0 c7 HR4 HG4 HX4 HJ4
          by_cases he3 : e3 = 0
          · have b3 : (e3 != 0) = false := by simp [he3]
            have c0 := HR5.out.jr.c0
            have CF : Hid (Calls Tryz.prog 33 #[.pointer (some ⟨r, 0, none⟩)] w5 fun e w' => e = .returned (.int .i64 e4) ∧ ∃ S', RJ w w' S' a r J D4 S) := HR5.out.flush (by omega) H4.out
            have HL : Hid (logR (e1, D1) (e2, D2) (e3, D3) (e4, D4) = (e4, D4)) := by
              show logR _ _ _ _ = _; unfold logR; simp [he1, he2, he3]
            rw [HL.out] at HF
            go_wp2_with fail
            refine CF.out.mono ?_
            rintro e w6 ⟨rfl, S6, hr6⟩
            have HR6 := Lib.hid hr6
            clear hr6 CF c0
            go_wp2
            go_ret
            exact ⟨by rw [HF.out.1]; rfl, by rw [HF.out.2]; exact HR6.out.ends⟩
          · have b3 : (e3 != 0) = true := by simp [he3]
            have HL : Hid (logR (e1, D1) (e2, D2) (e3, D3) (e4, D4) = (e3, D3)) := by
              show logR _ _ _ _ = _; unfold logR; simp [he1, he2, he3]
            rw [HL.out] at HF
            go_wp2
            go_ret
            exact ⟨by rw [HF.out.1]; rfl, by rw [HF.out.2]; exact HR5.out.ends⟩
        · have b2 : (e2 != 0) = true := by simp [he2]
          have HL : Hid (logR (e1, D1) (e2, D2) (e3, D3) (e4, D4) = (e2, D2)) := by
            show logR _ _ _ _ = _; unfold logR; simp [he1, he2]
          rw [HL.out] at HF
          go_wp2
          go_ret
          exact ⟨by rw [HF.out.1]; rfl, by rw [HF.out.2]; exact HR4.out.ends⟩
      · have b1 : (e1 != 0) = true := by simp [he1]
        have HL : Hid (logR (e1, D1) (e2, D2) (e3, D3) (e4, D4) = (e1, D1)) := by
          show logR _ _ _ _ = _; unfold logR; simp [he1]
        rw [HL.out] at HF
        go_wp2
        go_ret
        exact ⟨by rw [HF.out.1]; rfl, by rw [HF.out.2]; exact HR3.out.ends⟩
end
end Go.Proofs.YtepfcaopboenpaaGreat
