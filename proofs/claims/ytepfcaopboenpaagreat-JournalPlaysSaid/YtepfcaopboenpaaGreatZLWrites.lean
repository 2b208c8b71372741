/- The acts of the statements of layer 4, and what writes answers: the act's writes. -/
import Derived.Test.YtepfcaopboenpaaGreatZLHelp
import Derived.Test.YtepfcaopboenpaaGreatZFBase
import Derived.Deep.RegionHeld3

namespace Go.Proofs.YtepfcaopboenpaaGreat
open Go.RowKit
open Fr (SlW OwnW flatI two_cells two_one own_pushW)

/-- An act, as it is handed in. -/
structure Act4 where
  op : Int
  n : Int
  at_ : Int
  keep : List Bool
  kao : Option Addr
  kcap : Nat
  blks : List Int
  bao : Option Addr
  bcap : Nat
  data : ByteArray
def Act4.agg (a : Act4) : Value := .agg #[.int .i64 a.op, .int .i64 a.n, .int .i64 a.at_, .slice a.kao a.keep.length a.kcap, .slice a.bao a.blks.length a.bcap, .string a.data]
/-- Its numbers lie in w. -/
def Act4.Blks (w : World) (a : Act4) : Prop := a.blks = [] ∨ ∃ g off, a.bao = some ⟨g, off, none⟩ ∧ g < w.heap.size ∧ ∀ i (h : i < a.blks.length), w.cell? ⟨g, off + i, none⟩ = some (.int .i64 a.blks[i])

/-- The block and the text of an act's write. -/
def nA (x : Int) : Int := if (x.tmod 41 == 0) && (x != 0) then x else 52 + pickI x 18
def tA (x : Int) (i : Nat) (d : ByteArray) : ByteArray :=
  let s := strOfNums [(i : Int)] ++ (if (x.tmod 43 == 0) && (x != 0) then d else textOf (byteAt d))
  s.extract 0 (min 256 s.size)
def wrK (bl : List Int) (d : ByteArray) (k : Nat) : List (Int × ByteArray) := (List.range k).map fun i => (nA (bl.getD i 0), tA (bl.getD i 0) i d)
theorem wrK_succ (bl : List Int) (d : ByteArray) (k : Nat) : wrK bl d (k + 1) = wrK bl d k ++ [(nA (bl.getD k 0), tA (bl.getD k 0) k d)] := by unfold wrK; rw [List.range_succ, List.map_append]; rfl
theorem wrK_len (bl : List Int) (d : ByteArray) (k : Nat) : (wrK bl d k).length = k := by simp [wrK]
/-- The act's writes. -/
def Act4.wrs (a : Act4) : List (Int × ByteArray) := wrK a.blks a.data (min 52 a.blks.length)
theorem conv1 (w : World) (x : Int) : (convert 92 9 (.slice (some ⟨w.heap.size, 0, none⟩) 1 1)).run Tryz.prog (w.alloc (.cells #[.int .u8 x] 5)) = .ok (.string (strOfNums [x])) (w.alloc (.cells #[.int .u8 x] 5)) := by
  refine run_convert_bytes_arg _ 92 5 Tryz.underlying92 Tryz.underlying5 w.heap.size 0 1 1 [x] rfl ?_ 9 Tryz.underlying9
  intro i hi
  rw [cell_at (heap_alloc_new ..)]
  match i, hi with
  | 0, _ => rfl

set_option maxRecDepth 100000 in
set_option maxHeartbeats 4000000 in
theorem writes_any (A : Act4) (w : World) (hd : A.data.size ≤ 600) (hbl : A.blks.length ≤ 60) (hin : ∀ x ∈ A.blks, -9223372036854775808 ≤ x ∧ x ≤ 9223372036854775807) (hb : A.Blks w) :
    Calls Tryz.prog 16 #[A.agg] w fun e w' => ∃ u, e = .returned u ∧ OwnW w.heap.size w' u A.wrs ∧ Below w.heap.size w w' := by
  obtain ⟨i0, hi, hz0, hz1, hz2⟩ := info_parts Tryz.infoW
  have HZ2 := Lib.hid hz2; clear hz2
  obtain ⟨op, n, at_, keep, kao, kcap, bl, bao, bcap, d⟩ := A
  simp only at hd hbl hin
  unfold Act4.wrs Act4.agg
  simp only
  have HBl : Hid (∀ i (h : i < bl.length), ∃ g off, bao = some ⟨g, off, none⟩ ∧ g < w.heap.size ∧ w.cell? ⟨g, off + i, none⟩ = some (.int .i64 bl[i])) := by
    intro i h
    rcases hb with hb | ⟨g, off, h1, h2, h3⟩
    · have : bl = [] := hb
      subst this; simp at h
    · exact ⟨g, off, h1, h2, h3 i h⟩
  have HIn := Lib.hid hin
  clear hb hin
  obtain ⟨w0, hw0⟩ : ∃ w0, w.alloc (.cells #[.int .i64 op, .int .i64 n, .int .i64 at_, .slice kao keep.length kcap, .slice bao bl.length bcap, .string d] 40) = w0 := ⟨_, rfl⟩
  have hb0 : w0.heap[w.heap.size]? = some (.cells #[.int .i64 op, .int .i64 n, .int .i64 at_, .slice kao keep.length kcap, .slice bao bl.length bcap, .string d] 40 (0, 0)) := by rw [← hw0, heap_alloc_new]
  have HB0 : Hid (Below w.heap.size w w0) := by rw [← hw0]; exact (Below.refl _ _).alloc (Nat.le_refl _) _
  have hz : w.heap.size < w0.heap.size := (Array.getElem?_eq_some_iff.1 hb0).1
  have HC : Hid (∀ W, Below w0.heap.size w0 W → W.cell? ⟨w.heap.size, 4, none⟩ = some (.slice bao bl.length bcap) ∧ W.cell? ⟨w.heap.size, 5, none⟩ = some (.string d)) := fun W hW =>
    ⟨(hW.cell (p := ⟨w.heap.size, 4, none⟩) hz).trans (by rw [cell_at hb0]; rfl), (hW.cell (p := ⟨w.heap.size, 5, none⟩) hz).trans (by rw [cell_at hb0]; rfl)⟩
  have HW0 := Lib.hid hw0
  clear hw0 hb0
  have CD := Lib.hid (fun W => data_any d W hd)
  obtain ⟨nb, hnb⟩ : ∃ nb, bl.length = nb := ⟨_, rfl⟩
  rw [hnb] at HC HW0 hbl ⊢
  have HN := Lib.hid hnb; clear hnb
  go_enter Tryz.func16, Tryz.ntmps16
  go_wp2_with fail
  rw [HW0.out]
  go_loopw [3, 4] (fun wv i wr => ∃ k : Nat, k ≤ min 52 nb ∧ i = .int .i64 (k : Int) ∧ Hid (OwnW w0.heap.size wr wv (wrK bl d k)) ∧ Hid (Below w0.heap.size w0 wr)) (fun _ i _ => 60 - (intOf i).toNat)
  case atStart => exact ⟨0, Nat.zero_le _, rfl, OwnW.nil _ _, Below.refl _ _⟩
  case round =>
    obtain ⟨k, hk, rfl, HO, HB⟩ := hrel
    have hbr := HB.out.size
    obtain ⟨c4, c5⟩ := HC.out _ HB.out
    by_cases hlt : k < min 52 nb
    · have hkb : k < bl.length := by rw [HN.out]; omega
      obtain ⟨g, off, rfl, hg, hcell⟩ := HBl.out k hkb
      have hgr : g < w0.heap.size := Nat.lt_of_lt_of_le hg HB0.out.size
      have hx := (HB.out.cell (p := ⟨g, off + k, none⟩) hgr).trans ((HB0.out.cell (p := ⟨g, off + k, none⟩) hg).trans hcell)
      have hxi := HIn.out bl[k] (List.getElem_mem hkb)
      have hgd : bl.getD k 0 = bl[k] := by simp [List.getD, hkb]
      have HSN := Lib.hid (wrK_succ bl d k)
      rw [hgd] at HSN
      have hlen : (wrK bl d k).length ≤ 52 := by rw [wrK_len]; omega
      obtain ⟨M, hM⟩ : ∃ M, wrK bl d k = M := ⟨_, rfl⟩
      rw [hM] at HO HSN hlen
      clear hM hgd hcell
      generalize bl[k] = x at *
      have CP := Lib.hid (fun W => pick_any x 18 W hxi (by omega))
      have hpk := pickI_lt x 18 (by omega)
      unfold nA tA at HSN
      simp only at HSN
      generalize pickI x 18 = px at *
      have zD : (textOf (byteAt d)).size = 256 := textOf_size _
      obtain ⟨TD, hTD⟩ : ∃ T, textOf (byteAt d) = T := ⟨_, rfl⟩
      rw [hTD] at HSN CD zD
      clear hTD
      have i1 : (k : Int) < (nb : Int) := by omega
      have i2 : (k : Int) < 52 := by omega
      obtain ⟨ao2, c2, hv, _⟩ := HO.out.sl
      subst hv
      have hm41 : (41 : Int) ≠ 0 := by decide
      obtain ⟨B1, hB1⟩ : ∃ B, strOfNums [(k : Int)] = B := ⟨_, rfl⟩
      have zB : B1.size = 1 := by rw [← hB1, strOfNums_size]; rfl
      have zB1 : B1.size ≤ 1 := by omega
      have zD1 : TD.size ≤ 256 := by omega
      clear zB zD
      rw [hB1] at HSN
      have HConv : Hid (∀ W : World, (convert 92 9 (.slice (some ⟨W.heap.size, 0, none⟩) 1 1)).run Tryz.prog (W.alloc (.cells #[.int .u8 (k : Int)] 5)) = .ok (.string B1) (W.alloc (.cells #[.int .u8 (k : Int)] 5))) := fun W => by rw [← hB1]; exact conv1 W k
      clear hB1
      cases h41 : (x.tmod 41 == 0) <;> cases hnz : (x != 0) <;> cases h43 : (x.tmod 43 == 0)
      all_goals rw [h41, hnz, h43] at HSN
      all_goals simp only [Bool.and_self, Bool.and_true, Bool.and_false, Bool.true_and, Bool.false_and, if_true, if_false, Bool.false_eq_true] at HSN
      case false.false.false =>
        go_wp2_with fail
        refine (CP.out _).mono ?_
        rintro e w1 ⟨rfl, rfl⟩
        go_wp2_with fail
        refine (CD.out _).mono ?_
        rintro e w2 ⟨rfl, hb2⟩
        have HB2 := Lib.hid hb2
        have hbr2 := hb2.size
        have hx2 := (hb2.cell (p := ⟨g, off + k, none⟩) (Nat.lt_of_lt_of_le hgr hbr)).trans hx
        obtain ⟨c42, c52⟩ := HC.out _ (HB.out.trans (hb2.mono hbr))
        have hconv := HConv.out w2
        clear hb2
        have HO2 : Hid (OwnW w0.heap.size (w2.alloc (.cells #[.int .u8 (k : Int)] 5)) (.slice ao2 M.length c2) M) := HO.out.below (HB2.out.trans (((Below.refl _ _).alloc (Nat.le_refl _) _).mono hbr2))
        go_wp2_with (at_builtin; go_loud (refine wpList_append_own _ rfl _ _ 46 rfl w0.heap.size 73 i0 _ 2 24 Tryz.underlying46 hi hz0 hz1 HZ2.out rfl (by decide) _ _ _ rfl (HO2.out.alloc _) _ 1 1 [.int .i64 (52 + px), .string ((B1 ++ TD).extract 0 (min 256 ((B1.size : Int) + (TD.size : Int))).toNat)] rfl rfl (two_cells (by simp)) two_one ?c3 ?c4 ?c5 ?_))
        case c3 => unfold maxLen; omega
        case c4 => omega
        case c5 => simp; omega
        intro v1 w3 hown hgrow _
        have HO3 : Hid (OwnW w0.heap.size w3 v1 (wrK bl d (k + 1))) := by
          show OwnW _ _ _ _
          rw [HSN.out]
          have e1 : (min 256 ((B1.size : Int) + (TD.size : Int))).toNat = min 256 (B1 ++ TD).size := by rw [ByteArray.size_append]; omega
          rw [← e1]
          exact own_pushW hown
        have HB3 : Hid (Below w0.heap.size w0 w3) := (((HB.out.trans (HB2.out.mono hbr)).alloc (by omega) _).alloc (by simp; omega) _).grown hgrow (by simp; omega) (fun q hq => (HO.out.lt q hq).1)
        clear hown hgrow
        go_wp2
        go_roundw
        case rel => exact ⟨k + 1, by omega, by go_num, HO3, HB3⟩
        case measure => simp [intOf]; omega
      case false.false.true =>
        go_wp2_with fail
        refine (CP.out _).mono ?_
        rintro e w1 ⟨rfl, rfl⟩
        go_wp2_with fail
        refine (CD.out _).mono ?_
        rintro e w2 ⟨rfl, hb2⟩
        have HB2 := Lib.hid hb2
        have hbr2 := hb2.size
        have hx2 := (hb2.cell (p := ⟨g, off + k, none⟩) (Nat.lt_of_lt_of_le hgr hbr)).trans hx
        obtain ⟨c42, c52⟩ := HC.out _ (HB.out.trans (hb2.mono hbr))
        have hconv := HConv.out w2
        clear hb2
        have HO2 : Hid (OwnW w0.heap.size (w2.alloc (.cells #[.int .u8 (k : Int)] 5)) (.slice ao2 M.length c2) M) := HO.out.below (HB2.out.trans (((Below.refl _ _).alloc (Nat.le_refl _) _).mono hbr2))
        go_wp2_with (at_builtin; go_loud (refine wpList_append_own _ rfl _ _ 46 rfl w0.heap.size 73 i0 _ 2 24 Tryz.underlying46 hi hz0 hz1 HZ2.out rfl (by decide) _ _ _ rfl (HO2.out.alloc _) _ 1 1 [.int .i64 (52 + px), .string ((B1 ++ TD).extract 0 (min 256 ((B1.size : Int) + (TD.size : Int))).toNat)] rfl rfl (two_cells (by simp)) two_one ?c3 ?c4 ?c5 ?_))
        case c3 => unfold maxLen; omega
        case c4 => omega
        case c5 => simp; omega
        intro v1 w3 hown hgrow _
        have HO3 : Hid (OwnW w0.heap.size w3 v1 (wrK bl d (k + 1))) := by
          show OwnW _ _ _ _
          rw [HSN.out]
          have e1 : (min 256 ((B1.size : Int) + (TD.size : Int))).toNat = min 256 (B1 ++ TD).size := by rw [ByteArray.size_append]; omega
          rw [← e1]
          exact own_pushW hown
        have HB3 : Hid (Below w0.heap.size w0 w3) := (((HB.out.trans (HB2.out.mono hbr)).alloc (by omega) _).alloc (by simp; omega) _).grown hgrow (by simp; omega) (fun q hq => (HO.out.lt q hq).1)
        clear hown hgrow
        go_wp2
        go_roundw
        case rel => exact ⟨k + 1, by omega, by go_num, HO3, HB3⟩
        case measure => simp [intOf]; omega
      case false.true.false =>
        go_wp2_with fail
        refine (CP.out _).mono ?_
        rintro e w1 ⟨rfl, rfl⟩
        go_wp2_with fail
        refine (CD.out _).mono ?_
        rintro e w2 ⟨rfl, hb2⟩
        have HB2 := Lib.hid hb2
        have hbr2 := hb2.size
        have hx2 := (hb2.cell (p := ⟨g, off + k, none⟩) (Nat.lt_of_lt_of_le hgr hbr)).trans hx
        obtain ⟨c42, c52⟩ := HC.out _ (HB.out.trans (hb2.mono hbr))
        have hconv := HConv.out w2
        clear hb2
        have HO2 : Hid (OwnW w0.heap.size (w2.alloc (.cells #[.int .u8 (k : Int)] 5)) (.slice ao2 M.length c2) M) := HO.out.below (HB2.out.trans (((Below.refl _ _).alloc (Nat.le_refl _) _).mono hbr2))
        go_wp2_with (at_builtin; go_loud (refine wpList_append_own _ rfl _ _ 46 rfl w0.heap.size 73 i0 _ 2 24 Tryz.underlying46 hi hz0 hz1 HZ2.out rfl (by decide) _ _ _ rfl (HO2.out.alloc _) _ 1 1 [.int .i64 (52 + px), .string ((B1 ++ TD).extract 0 (min 256 ((B1.size : Int) + (TD.size : Int))).toNat)] rfl rfl (two_cells (by simp)) two_one ?c3 ?c4 ?c5 ?_))
        case c3 => unfold maxLen; omega
        case c4 => omega
        case c5 => simp; omega
        intro v1 w3 hown hgrow _
        have HO3 : Hid (OwnW w0.heap.size w3 v1 (wrK bl d (k + 1))) := by
          show OwnW _ _ _ _
          rw [HSN.out]
          have e1 : (min 256 ((B1.size : Int) + (TD.size : Int))).toNat = min 256 (B1 ++ TD).size := by rw [ByteArray.size_append]; omega
          rw [← e1]
          exact own_pushW hown
        have HB3 : Hid (Below w0.heap.size w0 w3) := (((HB.out.trans (HB2.out.mono hbr)).alloc (by omega) _).alloc (by simp; omega) _).grown hgrow (by simp; omega) (fun q hq => (HO.out.lt q hq).1)
        clear hown hgrow
        go_wp2
        go_roundw
        case rel => exact ⟨k + 1, by omega, by go_num, HO3, HB3⟩
        case measure => simp [intOf]; omega
      case false.true.true =>
        go_wp2_with fail
        refine (CP.out _).mono ?_
        rintro e w1 ⟨rfl, rfl⟩
        go_wp2_with fail
        refine (CD.out _).mono ?_
        rintro e w2 ⟨rfl, hb2⟩
        have HB2 := Lib.hid hb2
        have hbr2 := hb2.size
        have hx2 := (hb2.cell (p := ⟨g, off + k, none⟩) (Nat.lt_of_lt_of_le hgr hbr)).trans hx
        obtain ⟨c42, c52⟩ := HC.out _ (HB.out.trans (hb2.mono hbr))
        have hconv := HConv.out w2
        clear hb2
        have HO2 : Hid (OwnW w0.heap.size (w2.alloc (.cells #[.int .u8 (k : Int)] 5)) (.slice ao2 M.length c2) M) := HO.out.below (HB2.out.trans (((Below.refl _ _).alloc (Nat.le_refl _) _).mono hbr2))
        go_wp2_with (at_builtin; go_loud (refine wpList_append_own _ rfl _ _ 46 rfl w0.heap.size 73 i0 _ 2 24 Tryz.underlying46 hi hz0 hz1 HZ2.out rfl (by decide) _ _ _ rfl (HO2.out.alloc _) _ 1 1 [.int .i64 (52 + px), .string ((B1 ++ d).extract 0 (min 256 ((B1.size : Int) + (d.size : Int))).toNat)] rfl rfl (two_cells (by simp)) two_one ?c3 ?c4 ?c5 ?_))
        case c3 => unfold maxLen; omega
        case c4 => omega
        case c5 => simp; omega
        intro v1 w3 hown hgrow _
        have HO3 : Hid (OwnW w0.heap.size w3 v1 (wrK bl d (k + 1))) := by
          show OwnW _ _ _ _
          rw [HSN.out]
          have e1 : (min 256 ((B1.size : Int) + (d.size : Int))).toNat = min 256 (B1 ++ d).size := by rw [ByteArray.size_append]; omega
          rw [← e1]
          exact own_pushW hown
        have HB3 : Hid (Below w0.heap.size w0 w3) := (((HB.out.trans (HB2.out.mono hbr)).alloc (by omega) _).alloc (by simp; omega) _).grown hgrow (by simp; omega) (fun q hq => (HO.out.lt q hq).1)
        clear hown hgrow
        go_wp2
        go_roundw
        case rel => exact ⟨k + 1, by omega, by go_num, HO3, HB3⟩
        case measure => simp [intOf]; omega
      case true.false.false =>
        go_wp2_with fail
        refine (CP.out _).mono ?_
        rintro e w1 ⟨rfl, rfl⟩
        go_wp2_with fail
        refine (CD.out _).mono ?_
        rintro e w2 ⟨rfl, hb2⟩
        have HB2 := Lib.hid hb2
        have hbr2 := hb2.size
        have hx2 := (hb2.cell (p := ⟨g, off + k, none⟩) (Nat.lt_of_lt_of_le hgr hbr)).trans hx
        obtain ⟨c42, c52⟩ := HC.out _ (HB.out.trans (hb2.mono hbr))
        have hconv := HConv.out w2
        clear hb2
        have HO2 : Hid (OwnW w0.heap.size (w2.alloc (.cells #[.int .u8 (k : Int)] 5)) (.slice ao2 M.length c2) M) := HO.out.below (HB2.out.trans (((Below.refl _ _).alloc (Nat.le_refl _) _).mono hbr2))
        go_wp2_with (at_builtin; go_loud (refine wpList_append_own _ rfl _ _ 46 rfl w0.heap.size 73 i0 _ 2 24 Tryz.underlying46 hi hz0 hz1 HZ2.out rfl (by decide) _ _ _ rfl (HO2.out.alloc _) _ 1 1 [.int .i64 (52 + px), .string ((B1 ++ TD).extract 0 (min 256 ((B1.size : Int) + (TD.size : Int))).toNat)] rfl rfl (two_cells (by simp)) two_one ?c3 ?c4 ?c5 ?_))
        case c3 => unfold maxLen; omega
        case c4 => omega
        case c5 => simp; omega
        intro v1 w3 hown hgrow _
        have HO3 : Hid (OwnW w0.heap.size w3 v1 (wrK bl d (k + 1))) := by
          show OwnW _ _ _ _
          rw [HSN.out]
          have e1 : (min 256 ((B1.size : Int) + (TD.size : Int))).toNat = min 256 (B1 ++ TD).size := by rw [ByteArray.size_append]; omega
          rw [← e1]
          exact own_pushW hown
        have HB3 : Hid (Below w0.heap.size w0 w3) := (((HB.out.trans (HB2.out.mono hbr)).alloc (by omega) _).alloc (by simp; omega) _).grown hgrow (by simp; omega) (fun q hq => (HO.out.lt q hq).1)
        clear hown hgrow
        go_wp2
        go_roundw
        case rel => exact ⟨k + 1, by omega, by go_num, HO3, HB3⟩
        case measure => simp [intOf]; omega
      case true.false.true =>
        go_wp2_with fail
        refine (CP.out _).mono ?_
        rintro e w1 ⟨rfl, rfl⟩
        go_wp2_with fail
        refine (CD.out _).mono ?_
        rintro e w2 ⟨rfl, hb2⟩
        have HB2 := Lib.hid hb2
        have hbr2 := hb2.size
        have hx2 := (hb2.cell (p := ⟨g, off + k, none⟩) (Nat.lt_of_lt_of_le hgr hbr)).trans hx
        obtain ⟨c42, c52⟩ := HC.out _ (HB.out.trans (hb2.mono hbr))
        have hconv := HConv.out w2
        clear hb2
        have HO2 : Hid (OwnW w0.heap.size (w2.alloc (.cells #[.int .u8 (k : Int)] 5)) (.slice ao2 M.length c2) M) := HO.out.below (HB2.out.trans (((Below.refl _ _).alloc (Nat.le_refl _) _).mono hbr2))
        go_wp2_with (at_builtin; go_loud (refine wpList_append_own _ rfl _ _ 46 rfl w0.heap.size 73 i0 _ 2 24 Tryz.underlying46 hi hz0 hz1 HZ2.out rfl (by decide) _ _ _ rfl (HO2.out.alloc _) _ 1 1 [.int .i64 (52 + px), .string ((B1 ++ TD).extract 0 (min 256 ((B1.size : Int) + (TD.size : Int))).toNat)] rfl rfl (two_cells (by simp)) two_one ?c3 ?c4 ?c5 ?_))
        case c3 => unfold maxLen; omega
        case c4 => omega
        case c5 => simp; omega
        intro v1 w3 hown hgrow _
        have HO3 : Hid (OwnW w0.heap.size w3 v1 (wrK bl d (k + 1))) := by
          show OwnW _ _ _ _
          rw [HSN.out]
          have e1 : (min 256 ((B1.size : Int) + (TD.size : Int))).toNat = min 256 (B1 ++ TD).size := by rw [ByteArray.size_append]; omega
          rw [← e1]
          exact own_pushW hown
        have HB3 : Hid (Below w0.heap.size w0 w3) := (((HB.out.trans (HB2.out.mono hbr)).alloc (by omega) _).alloc (by simp; omega) _).grown hgrow (by simp; omega) (fun q hq => (HO.out.lt q hq).1)
        clear hown hgrow
        go_wp2
        go_roundw
        case rel => exact ⟨k + 1, by omega, by go_num, HO3, HB3⟩
        case measure => simp [intOf]; omega
      case true.true.false =>
        go_wp2_with fail
        refine (CP.out _).mono ?_
        rintro e w1 ⟨rfl, rfl⟩
        go_wp2_with fail
        refine (CD.out _).mono ?_
        rintro e w2 ⟨rfl, hb2⟩
        have HB2 := Lib.hid hb2
        have hbr2 := hb2.size
        have hx2 := (hb2.cell (p := ⟨g, off + k, none⟩) (Nat.lt_of_lt_of_le hgr hbr)).trans hx
        obtain ⟨c42, c52⟩ := HC.out _ (HB.out.trans (hb2.mono hbr))
        have hconv := HConv.out w2
        clear hb2
        have HO2 : Hid (OwnW w0.heap.size (w2.alloc (.cells #[.int .u8 (k : Int)] 5)) (.slice ao2 M.length c2) M) := HO.out.below (HB2.out.trans (((Below.refl _ _).alloc (Nat.le_refl _) _).mono hbr2))
        go_wp2_with (at_builtin; go_loud (refine wpList_append_own _ rfl _ _ 46 rfl w0.heap.size 73 i0 _ 2 24 Tryz.underlying46 hi hz0 hz1 HZ2.out rfl (by decide) _ _ _ rfl (HO2.out.alloc _) _ 1 1 [.int .i64 x, .string ((B1 ++ TD).extract 0 (min 256 ((B1.size : Int) + (TD.size : Int))).toNat)] rfl rfl (two_cells (by simp)) two_one ?c3 ?c4 ?c5 ?_))
        case c3 => unfold maxLen; omega
        case c4 => omega
        case c5 => simp; omega
        intro v1 w3 hown hgrow _
        have HO3 : Hid (OwnW w0.heap.size w3 v1 (wrK bl d (k + 1))) := by
          show OwnW _ _ _ _
          rw [HSN.out]
          have e1 : (min 256 ((B1.size : Int) + (TD.size : Int))).toNat = min 256 (B1 ++ TD).size := by rw [ByteArray.size_append]; omega
          rw [← e1]
          exact own_pushW hown
        have HB3 : Hid (Below w0.heap.size w0 w3) := (((HB.out.trans (HB2.out.mono hbr)).alloc (by omega) _).alloc (by simp; omega) _).grown hgrow (by simp; omega) (fun q hq => (HO.out.lt q hq).1)
        clear hown hgrow
        go_wp2
        go_roundw
        case rel => exact ⟨k + 1, by omega, by go_num, HO3, HB3⟩
        case measure => simp [intOf]; omega
      case true.true.true =>
        go_wp2_with fail
        refine (CP.out _).mono ?_
        rintro e w1 ⟨rfl, rfl⟩
        go_wp2_with fail
        refine (CD.out _).mono ?_
        rintro e w2 ⟨rfl, hb2⟩
        have HB2 := Lib.hid hb2
        have hbr2 := hb2.size
        have hx2 := (hb2.cell (p := ⟨g, off + k, none⟩) (Nat.lt_of_lt_of_le hgr hbr)).trans hx
        obtain ⟨c42, c52⟩ := HC.out _ (HB.out.trans (hb2.mono hbr))
        have hconv := HConv.out w2
        clear hb2
        have HO2 : Hid (OwnW w0.heap.size (w2.alloc (.cells #[.int .u8 (k : Int)] 5)) (.slice ao2 M.length c2) M) := HO.out.below (HB2.out.trans (((Below.refl _ _).alloc (Nat.le_refl _) _).mono hbr2))
        go_wp2_with (at_builtin; go_loud (refine wpList_append_own _ rfl _ _ 46 rfl w0.heap.size 73 i0 _ 2 24 Tryz.underlying46 hi hz0 hz1 HZ2.out rfl (by decide) _ _ _ rfl (HO2.out.alloc _) _ 1 1 [.int .i64 x, .string ((B1 ++ d).extract 0 (min 256 ((B1.size : Int) + (d.size : Int))).toNat)] rfl rfl (two_cells (by simp)) two_one ?c3 ?c4 ?c5 ?_))
        case c3 => unfold maxLen; omega
        case c4 => omega
        case c5 => simp; omega
        intro v1 w3 hown hgrow _
        have HO3 : Hid (OwnW w0.heap.size w3 v1 (wrK bl d (k + 1))) := by
          show OwnW _ _ _ _
          rw [HSN.out]
          have e1 : (min 256 ((B1.size : Int) + (d.size : Int))).toNat = min 256 (B1 ++ d).size := by rw [ByteArray.size_append]; omega
          rw [← e1]
          exact own_pushW hown
        have HB3 : Hid (Below w0.heap.size w0 w3) := (((HB.out.trans (HB2.out.mono hbr)).alloc (by omega) _).alloc (by simp; omega) _).grown hgrow (by simp; omega) (fun q hq => (HO.out.lt q hq).1)
        clear hown hgrow
        go_wp2
        go_roundw
        case rel => exact ⟨k + 1, by omega, by go_num, HO3, HB3⟩
        case measure => simp [intOf]; omega
    · have hkm : k = min 52 nb := by omega
      have HF : Hid (OwnW w0.heap.size wr u3 (wrK bl d (min 52 bl.length))) := by rw [HN.out, ← hkm]; exact HO.out
      have HBf : Hid (Below w.heap.size w wr) := HB0.out.trans (HB.out.mono (Nat.le_of_lt hz))
      rw [HN.out] at HF
      clear HO HC HBl
      by_cases h52 : k < 52
      · have i1 : ¬ (k : Int) < (nb : Int) := by omega
        have i1d : decide ((k : Int) < (nb : Int)) = false := decide_eq_false i1
        go_wp2
        go_ret
        exact ⟨_, rfl, HF.out.mono (Nat.le_of_lt hz), HBf.out⟩
      · have i2 : ¬ (k : Int) < 52 := by omega
        by_cases hn : k < nb
        · have i1 : (k : Int) < (nb : Int) := by omega
          go_wp2
          go_ret
          exact ⟨_, rfl, HF.out.mono (Nat.le_of_lt hz), HBf.out⟩
        · have i1 : ¬ (k : Int) < (nb : Int) := by omega
          have i1d : decide ((k : Int) < (nb : Int)) = false := decide_eq_false i1
          go_wp2
          go_ret
          exact ⟨_, rfl, HF.out.mono (Nat.le_of_lt hz), HBf.out⟩
end Go.Proofs.YtepfcaopboenpaaGreat
/- The acts of the statements of layer 4: how a list of them lies in memory, and what small answers. -/
namespace Go.Proofs.YtepfcaopboenpaaGreat
open Go.RowKit

def Act4.cells (a : Act4) : List Value := [.int .i64 a.op, .int .i64 a.n, .int .i64 a.at_, .slice a.kao a.keep.length a.kcap, .slice a.bao a.blks.length a.bcap, .string a.data]
/-- Its numbers are Go's; its bools and its blocks lie in w0. -/
structure Act4.Ok (w0 : World) (a : Act4) : Prop where
  op0 : -9223372036854775808 ≤ a.op ∧ a.op ≤ 9223372036854775807
  n0 : -9223372036854775808 ≤ a.n ∧ a.n ≤ 9223372036854775807
  at0 : -9223372036854775808 ≤ a.at_ ∧ a.at_ ≤ 9223372036854775807
  klen : a.keep.length ≤ 9223372036854775807
  blen : a.blks.length ≤ 9223372036854775807
  dlen : a.data.size ≤ 9223372036854775807
  keeps : a.keep = [] ∨ ∃ g off, a.kao = some ⟨g, off, none⟩ ∧ g < w0.heap.size ∧ ∀ i (h : i < a.keep.length), w0.cell? ⟨g, off + i, none⟩ = some (.bool a.keep[i])
  bin : ∀ x ∈ a.blks, -9223372036854775808 ≤ x ∧ x ≤ 9223372036854775807
  blks : a.Blks w0

/-- The slice value v says the acts L, in w0. -/
def Acts4 (w0 : World) (v : Value) (L : List Act4) : Prop :=
  (∀ a ∈ L, a.Ok w0) ∧ L.length ≤ 9223372036854775807 ∧ ∃ ao cap, v = .slice ao L.length cap ∧
    ∀ i (h : i < L.length), ∃ g off, ao = some ⟨g, off, none⟩ ∧ g < w0.heap.size ∧ ∀ j u, (L[i]).cells[j]? = some u → w0.cell? ⟨g, off + i * 6 + j, none⟩ = some u

/-- An act that is not too long. -/
def Act4.Fits (a : Act4) : Prop := a.data.size ≤ 600 ∧ a.keep.length ≤ 200 ∧ a.blks.length ≤ 60
instance (a : Act4) : Decidable a.Fits := by unfold Act4.Fits; infer_instance
/-- Not too many acts, none too long. -/
def small4 (L : List Act4) : Bool := decide (L.length ≤ 30 ∧ ∀ a ∈ L, a.Fits)

section
variable {w0 w : World} {v : Value} {L : List Act4}
theorem Act4.Blks.below {a : Act4} (h : a.Blks w0) (hb : Below w0.heap.size w0 w) : a.Blks w := by
  rcases h with h | ⟨g, off, h1, h2, h3⟩
  · exact .inl h
  · exact .inr ⟨g, off, h1, Nat.lt_of_lt_of_le h2 hb.size, fun i hi => (hb.cell (p := ⟨g, off + i, none⟩) h2).trans (h3 i hi)⟩
theorem Acts4.cell (h : Acts4 w0 v L) (hb : Below w0.heap.size w0 w) (i : Nat) (hi : i < L.length) :
    ∃ g off cap, v = .slice (some ⟨g, off, none⟩) L.length cap ∧ w.cell? ⟨g, off + i * 6, none⟩ = some (.int .i64 L[i].op) ∧ w.cell? ⟨g, off + i * 6 + 1, none⟩ = some (.int .i64 L[i].n) ∧ w.cell? ⟨g, off + i * 6 + 2, none⟩ = some (.int .i64 L[i].at_) ∧
      w.cell? ⟨g, off + i * 6 + 3, none⟩ = some (.slice L[i].kao L[i].keep.length L[i].kcap) ∧ w.cell? ⟨g, off + i * 6 + 4, none⟩ = some (.slice L[i].bao L[i].blks.length L[i].bcap) ∧ w.cell? ⟨g, off + i * 6 + 5, none⟩ = some (.string L[i].data) := by
  obtain ⟨_, _, ao, cap, rfl, hc⟩ := h
  obtain ⟨g, off, rfl, hg, hc⟩ := hc i hi
  have hk : ∀ o, w.cell? ⟨g, o, none⟩ = w0.cell? ⟨g, o, none⟩ := fun o => hb.cell (p := ⟨g, o, none⟩) hg
  exact ⟨g, off, cap, rfl, (hk _).trans (hc 0 _ rfl), (hk _).trans (hc 1 _ rfl), (hk _).trans (hc 2 _ rfl), (hk _).trans (hc 3 _ rfl), (hk _).trans (hc 4 _ rfl), (hk _).trans (hc 5 _ rfl)⟩
theorem take_snoc4 {α : Type} (L : List α) (k : Nat) (h : k < L.length) : L.take (k + 1) = L.take k ++ [L[k]] := by
  rw [List.take_succ_eq_append_getElem h]

set_option maxRecDepth 100000 in
set_option maxHeartbeats 2000000 in
theorem small4_any (h : Acts4 w0 v L) (hb : Below w0.heap.size w0 w) :
    Calls Tryz.prog 5 #[v] w fun e w' => e = .returned (.bool (small4 L)) ∧ w = w' := by
  obtain ⟨ao, cap, hv⟩ : ∃ ao cap, v = .slice ao L.length cap := by obtain ⟨_, _, ao, cap, hv, _⟩ := h; exact ⟨ao, cap, hv⟩
  have hlen := h.2.1
  by_cases hl : 30 < L.length
  · have HS : Hid (small4 L = false) := by
      show small4 L = false; unfold small4; simp only [decide_eq_false_iff_not]; omega
    subst hv
    clear h
    generalize L.length = n at *
    go_enter Tryz.func5, Tryz.ntmps5
    go_wp2
    go_ret
    exact ⟨by rw [HS.out]; rfl, rfl⟩
  · have HL := Lib.hid hv
    have hl' : L.length ≤ 30 := by omega
    have HA := Lib.hid h; have HB := Lib.hid hb
    clear h hb hl
    obtain ⟨n, hn⟩ : ∃ n, L.length = n := ⟨_, rfl⟩
    have HN := Lib.hid hn
    rw [hn] at hlen hl' hv
    clear hn
    subst hv
    go_enter Tryz.func5, Tryz.ntmps5
    go_wp2_with fail
    go_loop [3] (fun i => ∃ k : Nat, k ≤ n ∧ i = .int .i64 k ∧ Hid (∀ a ∈ L.take k, a.Fits)) (fun i => n - (intOf i).toNat)
    case atStart => exact ⟨0, Nat.zero_le _, rfl, fun a ha => by simp at ha⟩
    case round =>
      obtain ⟨k, hk, rfl, HP⟩ := hrel
      by_cases hlt : k < n
      · have hkL : k < L.length := by rw [HN.out]; exact hlt
        obtain ⟨g, off, cap', hv, c0, c1, c2, c3, c4, c5⟩ := HA.out.cell HB.out k hkL
        obtain ⟨rfl, _, rfl⟩ : ao = some ⟨g, off, none⟩ ∧ n = L.length ∧ cap = cap' := by simpa using hv
        have HT := Lib.hid (take_snoc4 L k hkL)
        have HM : Hid (L[k] ∈ L) := List.getElem_mem hkL
        have hda := (HA.out.1 L[k] (List.getElem_mem hkL)).dlen
        have hka := (HA.out.1 L[k] (List.getElem_mem hkL)).klen
        have hba := (HA.out.1 L[k] (List.getElem_mem hkL)).blen
        clear hv c0 c1 c2
        generalize L[k] = a at *
        by_cases h1 : a.data.size ≤ 600
        · by_cases h2 : a.keep.length ≤ 200
          · by_cases h3 : a.blks.length ≤ 60
            · go_wp2
              go_round
              case rel =>
                refine ⟨k + 1, by omega, by go_num, fun b hb => ?_⟩
                rw [HT.out, List.mem_append, List.mem_singleton] at hb
                rcases hb with hb | rfl
                · exact HP.out b hb
                · exact ⟨h1, h2, h3⟩
              case measure => simp [intOf]; omega
            · have HS : Hid (small4 L = false) := by
                show small4 L = false; unfold small4; simp only [decide_eq_false_iff_not]
                intro hh; exact h3 (hh.2 a HM.out).2.2
              go_wp2
              go_ret
              exact ⟨by rw [HS.out]; rfl, rfl⟩
          · have HS : Hid (small4 L = false) := by
              show small4 L = false; unfold small4; simp only [decide_eq_false_iff_not]
              intro hh; exact h2 (hh.2 a HM.out).2.1
            go_wp2
            go_ret
            exact ⟨by rw [HS.out]; rfl, rfl⟩
        · have HS : Hid (small4 L = false) := by
            show small4 L = false; unfold small4; simp only [decide_eq_false_iff_not]
            intro hh; exact h1 (hh.2 a HM.out).1
          go_wp2
          go_ret
          exact ⟨by rw [HS.out]; rfl, rfl⟩
      · have HS : Hid (small4 L = true) := by
          show small4 L = true; unfold small4; simp only [decide_eq_true_eq]
          refine ⟨by rw [HN.out]; exact hl', fun a ha => HP.out a ?_⟩
          rw [List.take_of_length_le (by rw [HN.out]; omega)]; exact ha
        go_wp2
        go_ret
        exact ⟨by rw [HS.out]; rfl, rfl⟩
end

end Go.Proofs.YtepfcaopboenpaaGreat
