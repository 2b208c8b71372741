/- What the document's own Unpack answers: the same. -/
import Derived.Test.YthambopnmhkeeaaGreatZFBase
import Derived.Test.YthambopnmhkeeaaGreatZCalls2
import Derived.Deep.RegionHeld3
import Derived.IntWalk
import Derived.Test.YthambopnmhkeeaaGreatZNewD
import Derived.Deep.RegionWith
import Derived.BigQuiet
import Derived.Deep.QuietTactic

set_option maxRecDepth 100000
namespace Go.Proofs.YthambopnmhkeeaaGreat.Fr
open Go.RowKit
theorem zip_snoc (bl : List Int) (D : List ByteArray) (k : Nat) (h1 : k < bl.length) (h2 : k < D.length) : (bl.take (k + 1)).zip (D.take (k + 1)) = (bl.take k).zip (D.take k) ++ [(bl[k], D[k])] := by
 rw [List.take_succ_eq_append_getElem h1, List.take_succ_eq_append_getElem h2, List.zip_append (by rw [List.length_take, List.length_take]; omega)]
 rfl
theorem held_one {w W W' : World} {g o : Nat} {T : ByteArray} (hg : g < w.heap.size) (h : Below w.heap.size w W /\ W.cell? ⟨g, o, none⟩ = some (.string T)) (hb : Below W.heap.size W W') : Below w.heap.size w W' /\ W'.cell? ⟨g, o, none⟩ = some (.string T) :=
 ⟨h.1.trans (hb.mono h.1.size), (hb.cell (p := ⟨g, o, none⟩) (Nat.lt_of_lt_of_le hg h.1.size)).trans h.2⟩
theorem joinB_snoc (D : List ByteArray) (k : Nat) (h : k < D.length) {T : ByteArray} (hT : T = bs (joinB (D.take k))) : T ++ D[k] = bs (joinB (D.take (k + 1))) := by
 rw [hT, joinB_take D k h, <- bs_append, bs_data]
set_option maxHeartbeats 1000000 in
theorem runpack_none (ao : Option Addr) (c : Nat) (w : World) :
  Calls Tryz.prog 182 #[.slice ao 0 c] w fun e w' => e = .returned (.tuple #[.int .u64 0, .slice none 0 0, .int .i64 7]) /\ Below w.heap.size w w' := by
 go_enter Tryz.func182, Tryz.ntmps182
 go_wp2
 go_ret3
 exact ⟨rfl, Below.refl _ _⟩
set_option maxHeartbeats 1000000 in
theorem runpack_nohead (s : ByteArray) (m b off c : Nat) (w : World) (h : headB s.data.toList = false) (hm : m <= 1000) (hc : w.cell? ⟨b, off, none⟩ = some (.string s)) :
  Calls Tryz.prog 182 #[.slice (some ⟨b, off, none⟩) (m + 1) c] w fun e w' => e = .returned (.tuple #[.int .u64 0, .slice none 0 0, .int .i64 7]) /\ Below w.heap.size w w' := by
 have C := Lib.hid (rblocks_no s w h)
 clear h
 have h0 : (((m : Int) + 1) == 0) = false := beq_eq_false_iff_ne.2 (by omega)
 go_enter Tryz.func182, Tryz.ntmps182
 go_wp2_with fail
 refine C.out.mono ?_
 rintro e w1 ⟨rfl, hb1⟩
 have HB := Lib.hid hb1; clear hb1 C
 go_wp2
 go_ret3
 exact ⟨rfl, HB.out⟩
set_option maxHeartbeats 1000000 in
theorem runpack_few (s : ByteArray) (m b off c : Nat) (w : World) (h : headB s.data.toList = true) (hm : m <= 1000) (hn : m < nmAt s.data.toList 12) (hc : w.cell? ⟨b, off, none⟩ = some (.string s)) :
  Calls Tryz.prog 182 #[.slice (some ⟨b, off, none⟩) (m + 1) c] w fun e w' => e = .returned (.tuple #[.int .u64 0, .slice none 0 0, .int .i64 7]) /\ Below w.heap.size w w' := by
 have C := Lib.hid (rblocks_yes s w h)
 have HBL := Lib.hid (blocksOf_len s.data.toList)
 clear h
 have h0 : (((m : Int) + 1) == 0) = false := beq_eq_false_iff_ne.2 (by omega)
 generalize seqOf s.data.toList = sq at *
 generalize blocksOf s.data.toList = bl at *
 generalize nmAt s.data.toList 12 = n at *
 go_enter Tryz.func182, Tryz.ntmps182
 go_wp2_with fail
 refine C.out.mono ?_
 rintro e w1 ⟨v, rfl, ho, hb1⟩
 have HB := Lib.hid hb1; clear hb1 C
 obtain ⟨ao, c2, hv⟩ := ho.shape
 rw [HBL.out] at hv
 subst hv
 clear ho
 go_wp2
 go_ret3
 exact ⟨rfl, HB.out⟩
set_option maxHeartbeats 4000000 in
theorem runpack_head (s : ByteArray) (D : List ByteArray) (b off c : Nat) (w : World) (R : Ending -> World -> Prop) (h : headB s.data.toList = true) (hm : D.length <= 1000) (hn : nmAt s.data.toList 12 <= D.length) (hb : b < w.heap.size) (hD : ∀ d ∈ D, d.size <= maxLen)
  (hc : StrsAt w b off (s :: D))
  (hform : (¬ ∀ d ∈ D.take (nmAt s.data.toList 12), d.size = 256) -> ∀ w', Below w.heap.size w w' -> R (.returned (.tuple #[.int .u64 0, .slice none 0 0, .int .i64 7])) w')
  (hsum : (∀ d ∈ D.take (nmAt s.data.toList 12), d.size = 256) -> sumB s D = false -> ∀ w', Below w.heap.size w w' -> R (.returned (.tuple #[.int .u64 0, .slice none 0 0, .int .i64 8])) w')
  (hok : (∀ d ∈ D.take (nmAt s.data.toList 12), d.size = 256) -> sumB s D = true -> ∀ v w', OwnW w.heap.size w' v ((blocksOf s.data.toList).zip (D.take (nmAt s.data.toList 12))) -> Below w.heap.size w w' -> R (.returned (.tuple #[.int .u64 ((seqOf s.data.toList : Nat) : Int), v, .int .i64 0])) w') :
  Calls Tryz.prog 182 #[.slice (some ⟨b, off, none⟩) (D.length + 1) c] w R := by
 obtain ⟨i0, hi, hz0, hz1, hz2⟩ := info_parts Tryz.infoW
 have HZ2 := Lib.hid hz2; clear hz2
 obtain ⟨k1, k2, k3, k4, k5, k6⟩ := (headB_iff _).1 h
 have hsz : s.size = 256 := by rw [<- str_len, k1]
 have C := Lib.hid (rblocks_yes s w h)
 have HBL := Lib.hid (blocksOf_len s.data.toList)
 have hc0 := hc 0 (by simp)
 simp only [Nat.add_zero, List.getElem_cons_zero] at hc0
 have HC := Lib.hid hc.tail
 have HF := Lib.hid hform
 have HS := Lib.hid hsum
 have HO := Lib.hid hok
 have HDD := Lib.hid hD
 have h248 := nmAt_lt s.data.toList 248
 have hcl := crcL_lt (s.data.toList.take 248 ++ joinB (D.take (nmAt s.data.toList 12)))
 have HSB : Hid (sumB s D = (nmAt s.data.toList 248 == crcL (s.data.toList.take 248 ++ joinB (D.take (nmAt s.data.toList 12))))) := rfl
 obtain ⟨X, hX⟩ : ∃ X, s.extract 0 248 = X := ⟨_, rfl⟩
 obtain ⟨Y, hY⟩ : ∃ Y, s.extract 248 252 = Y := ⟨_, rfl⟩
 have HXL : Hid (X = bs (s.data.toList.take 248)) := by show _ = _; rw [<- hX]; exact ext_to s _ rfl 248
 have HYL : Hid (Y = bs ((s.data.toList.take 252).drop 248)) := by
  show _ = _
  have := bs_ext s.data.toList 248 252
  rw [bs_data] at this
  rw [<- hY, this]
 have zX : X.size <= 248 := by rw [HXL.out, bs_len, List.length_take]; omega
 have HFOUR := Lib.hid (fun v hv => four_iff s.data.toList 248 v (by omega) hv)
 clear hD hc h k1 k2 k3 k6 hform hsum hok
 have HCRC : Hid (∀ W T, T = bs (joinB (D.take (nmAt s.data.toList 12))) -> (X ++ T).size <= maxLen -> Calls Tryz.prog 184 #[.string (X ++ T)] W fun e w' => e = .returned (.int .u32 ((crcL (s.data.toList.take 248 ++ joinB (D.take (nmAt s.data.toList 12))) : Nat) : Int)) /\ W = w') := fun W T hT hz => by
  have := rcrc_any (X ++ T) W hz
  rw [HXL.out, hT, bs_append, data_bs] at this
  rw [HXL.out, hT, bs_append]
  exact this
 generalize crcL (s.data.toList.take 248 ++ joinB (D.take (nmAt s.data.toList 12))) = sm at *
 obtain ⟨t4, z4, H4⟩ := fix_name sm
 have HCMP : Hid (Y = t4 ↔ nmAt s.data.toList 248 = sm) := by
  rw [HYL.out, <- H4.out]
  constructor
  ·intro e; exact (HFOUR.out sm hcl).1 (bs_eq e)
  ·intro e; exact congrArg bs ((HFOUR.out sm hcl).2 e)
 generalize seqOf s.data.toList = sq at *
 generalize nmAt s.data.toList 248 = told at *
 generalize blocksOf s.data.toList = bl at *
 generalize nmAt s.data.toList 12 = n at *
 clear HFOUR HYL HXL
 obtain ⟨m, hmm⟩ : ∃ m, D.length = m := ⟨_, rfl⟩
 rw [hmm] at hm hn ⊢
 have HM := Lib.hid hmm; clear hmm
 have HSZ := Lib.hid hsz
 have s1 : s.size <= 256 := by omega
 have s2 : (252 : Int) <= (s.size : Int) := by omega
 have s3 : (248 : Int) <= (s.size : Int) := by omega
 clear hsz
 have h0 : (((m : Int) + 1) == 0) = false := beq_eq_false_iff_ne.2 (by omega)
 have h1 : ¬ ((m : Int) + 1 <= (n : Int)) := by omega
 go_enter Tryz.func182, Tryz.ntmps182
 go_wp2_with fail
 refine C.out.mono ?_
 rintro e w1 ⟨v, rfl, ho, hb1⟩
 have HB1 := Lib.hid hb1
 obtain ⟨gi, ci, hv, hgi, hci⟩ := ho.here (by rw [HBL.out]; omega)
 rw [HBL.out] at hv
 subst hv
 have HCI := Lib.hid hci
 clear ho hb1 C hci
 go_wp2_with fail
 go_loopw [8, 9, 10] (fun t wv i wr => ∃ k T, k <= n /\ i = .int .i64 ((k : Nat) : Int) /\ t = .string T /\ T.size <= 256 * k /\ Hid (T = bs (joinB (D.take k))) /\ Hid (∀ d ∈ D.take k, d.size = 256) /\ Hid (OwnW w1.heap.size wr wv ((bl.take k).zip (D.take k))) /\ Hid (Below w1.heap.size w1 wr)) (fun _ _ i _ => n - (intOf i).toNat)
 case atStart => exact ⟨0, _, Nat.zero_le _, rfl, rfl, Nat.le_refl _, rfl, (fun d hd => by simp at hd), OwnW.nil _ _, Below.refl _ _⟩
 case round =>
  obtain ⟨k, T, hk, rfl, rfl, hTz, HT, HK, HOK, HB⟩ := hrel
  have hbr := HB.out.size
  have HBW := Lib.hid (HB1.out.trans (HB.out.mono HB1.out.size))
  by_cases hlt : k < n
  ·have hkD : k < D.length := by rw [HM.out]; omega
   have hkB : k < bl.length := by rw [HBL.out]; exact hlt
   have hsrc := (HC.out.below HBW.out hb) k hkD
   have hint := (HB.out.cell (p := ⟨gi, k, none⟩) hgi).trans (HCI.out k hkB)
   have HTK : Hid (D.take (k + 1) = D.take k ++ [D[k]]) := List.take_succ_eq_append_getElem hkD
   have HMEM : Hid (D[k] ∈ D.take n) := by
    rw [List.mem_take_iff_getElem]
    exact ⟨k, by omega, rfl⟩
   have HZS := Lib.hid (zip_snoc bl D k hkB hkD)
   have HJS := Lib.hid (joinB_snoc D k hkD HT.out)
   have hdz := HDD.out D[k] (List.getElem_mem hkD)
   unfold maxLen at hdz
   have hzl : ((bl.take k).zip (D.take k)).length <= 48 := by rw [List.length_zip, List.length_take]; omega
   generalize D[k] = d at *
   generalize bl[k] = bk at *
   have hsum1 : off + 1 + k = off + (1 + k) := by omega
   rw [hsum1] at hsrc
   clear hsum1
   have i2 : (1 : Int) + (k : Int) < (m : Int) + 1 := by omega
   have i3 : (k : Int) < (n : Int) := by omega
   by_cases hd : d.size = 256
   ·have HK2 : Hid (∀ d ∈ D.take (k + 1), d.size = 256) := by
     intro x hx
     rw [HTK.out] at hx
     rcases List.mem_append.1 hx with hx | hx
     ·exact HK.out x hx
     ·simp at hx; rw [hx]; exact hd
    have hne : ((d.size : Int) != 256) = false := by simp; omega
    have hdz2 : d.size <= 256 := by omega
    clear hd
    obtain ⟨Z, hZ⟩ : ∃ Z, (bl.take k).zip (D.take k) = Z := ⟨_, rfl⟩
    rw [hZ] at HOK HZS hzl
    clear hZ
    obtain ⟨ao2, c2, hv2, _⟩ := HOK.out.sl
    subst hv2
    go_wp2_with fail
    have i5 : (0 : Int) <= 1 + (k : Int) := by omega
    have e2 : (1 + (k : Int)).toNat = 1 + k := by omega
    have e1 : IntKind.i64.wrap (1 + (k : Int)) = 1 + (k : Int) := IntWalk.i64_in _ (by omega)
    go_region_law (first
     | (refine step_append_own rfl (.tmp 51) (.tmp 62) 49 rfl w1.heap.size 63 i0 (.agg #[.int .i64 0, .string ⟨#[]⟩]) 2 24 Tryz.underlying49 hi hz0 hz1 HZ2.out rfl (by omega) (.slice ao2 Z.length c2) Z.length (flatI Z) (by kernel_rfl) ?own ⟨wr.heap.size, 0, none⟩ 1 1 [.int .i64 bk, .string d] (by kernel_rfl) rfl (two_cells rfl) two_one (by unfold maxLen; omega) (by omega) ?base ?_
        case own => exact (own_below HOK.out (Below.refl _ _).drew).alloc _
        case base => simp; omega
        intro v1 w3 hown hgrow
        have HO3 := Lib.hid (own_pushW hown)
        have HB3 : Hid (Below w1.heap.size w1 w3) := ((HB.out.drew).alloc hbr _).grown hgrow (by simp; omega) (fun q hq => (HOK.out.lt q hq).1)
        clear hown hgrow))
    all_goals
     clear e1 e2
     go_wp2
     go_roundw
     case rel => exact ⟨k + 1, _, by omega, by go_num, rfl, by simp; omega, HJS, HK2, by show OwnW _ _ _ _; rw [HZS.out]; exact HO3.out, HB3⟩
     case measure => simp [intOf]; omega
   ·have HNO : Hid (¬ ∀ d ∈ D.take n, d.size = 256) := fun hh => hd (hh _ HMEM.out)
    have hne : ((d.size : Int) != 256) = true := by simp; omega
    clear hd
    go_wp2
    go_ret3
    exact HF.out HNO.out _ HBW.out
  ·have hkn : k = n := by omega
   subst hkn
   have hc0r := (HBW.out.cell (p := ⟨b, off, none⟩) hb).trans hc0
   have hbr2 : b < wr.heap.size := Nat.lt_of_lt_of_le hb HBW.out.size
   have HZF : Hid (OwnW w1.heap.size wr u9 (bl.zip (D.take k))) := by
    have := HOK.out
    rw [List.take_of_length_le (l := bl) (by rw [HBL.out]; exact Nat.le_refl _)] at this
    exact this
   have CRC := Lib.hid (fun W => HCRC.out W T HT.out (by simp; unfold maxLen; omega))
   clear HCRC HOK
   have i3 : ¬ (k : Int) < (k : Int) := by omega
   have hadd : ¬ 9223372036854775807 < X.size + T.size := by omega
   by_cases ht : told = sm
   ·have HTT : Hid (sumB s D = true) := by show _ = _; rw [HSB.out]; simpa using ht
    have hcmp := str_same (HCMP.out.2 ht)
    have hcmp2 : (!(Y.toList == t4.toList)) = false := by rw [hcmp]; rfl
    clear ht hcmp
    go_wp2_with fail
    go_region_held3 (fun W => Below wr.heap.size wr W /\ W.cell? ⟨b, off, none⟩ = some (.string s))
     (first | exact ⟨(Below.refl _ _).drew, hc0r⟩ | exact held_one hbr2 (by assumption) (by assumption))
     (first
      | (go_at_call 184; refine (CRC.out _).mono ?_; rintro e w' ⟨rfl, rfl⟩)
      | (go_at_call 143; refine (rfixed_to _ _ _ _ rfl hcl H4).mono ?_; rintro e w' ⟨rfl, hbx⟩))
    rename_i hHeld
    have HBF := Lib.hid (HB1.out.trans ((HB.out.trans (hHeld.1.mono hbr)).mono HB1.out.size))
    have HOF := Lib.hid ((HZF.out.below hHeld.1).mono HB1.out.size)
    clear hHeld hbx hcmp2
    go_wp2
    go_ret3
    exact HO.out HK.out HTT.out _ _ HOF.out HBF.out
   ·have HTT : Hid (sumB s D = false) := by show _ = _; rw [HSB.out]; simpa using ht
    have hcmp := str_diff (fun e => ht (HCMP.out.1 e))
    have hcmp2 : (!(Y.toList == t4.toList)) = true := by rw [hcmp]; rfl
    clear ht hcmp
    go_wp2_with fail
    go_region_held3 (fun W => Below wr.heap.size wr W /\ W.cell? ⟨b, off, none⟩ = some (.string s))
     (first | exact ⟨(Below.refl _ _).drew, hc0r⟩ | exact held_one hbr2 (by assumption) (by assumption))
     (first
      | (go_at_call 184; refine (CRC.out _).mono ?_; rintro e w' ⟨rfl, rfl⟩)
      | (go_at_call 143; refine (rfixed_to _ _ _ _ rfl hcl H4).mono ?_; rintro e w' ⟨rfl, hbx⟩))
    rename_i hHeld
    have HBF := Lib.hid (HB1.out.trans ((HB.out.trans (hHeld.1.mono hbr)).mono HB1.out.size))
    clear hHeld hbx hcmp2
    go_wp2
    go_ret3
    exact HS.out HK.out HTT.out _ HBF.out
theorem runpack_any (L : List ByteArray) (v : Value) (w : World) (hl : L.length <= 1000) (hs : ∀ d ∈ L, d.size <= maxLen) (h : SlS w v L) :
  Calls Tryz.prog 182 #[v] w fun e w' => ∃ u, e = .returned (.tuple #[.int .u64 (((unp L).1 : Nat) : Int), u, .int .i64 (((unp L).2.2 : Nat) : Int)]) /\ OwnW w.heap.size w' u (unp L).2.1 /\ Below w.heap.size w w' := by
 cases L with
 | nil =>
  obtain ⟨ao, c, rfl, _⟩ := h
  exact (runpack_none ao c w).mono fun e w' ⟨he, hb⟩ => ⟨_, he, OwnW.nil _ _, hb⟩
 | cons s D =>
  obtain ⟨b, off, c, rfl, hcap, hb, hc⟩ := h.here (by simp)
  have hc0 := hc 0 (by simp)
  simp only [Nat.add_zero, List.getElem_cons_zero] at hc0
  have hl' : D.length <= 1000 := by simp at hl; omega
  rw [unp_cons]
  cases hh : headB s.data.toList with
  | false =>
   have hf : ¬ formB s D = true := fun hf => by rw [((formB_iff s D).1 hf).1] at hh; cases hh
   rw [if_neg hf]
   exact (runpack_nohead s D.length b off c w hh hl' hc0).mono fun e w' ⟨he, hb⟩ => ⟨_, he, OwnW.nil _ _, hb⟩
  | true =>
   by_cases hn : nmAt s.data.toList 12 <= D.length
   ·refine runpack_head s D b off c w _ hh hl' hn hb (fun d hd => hs d (List.mem_cons_of_mem _ hd)) hc ?_ ?_ ?_
    ·intro hno w' hb
     have hf : ¬ formB s D = true := fun hf => hno ((formB_iff s D).1 hf).2.2
     rw [if_neg hf]
     exact ⟨_, rfl, OwnW.nil _ _, hb⟩
    ·intro hall hsm w' hb
     rw [if_pos ((formB_iff s D).2 ⟨hh, hn, hall⟩), if_neg (by rw [hsm]; decide)]
     exact ⟨_, rfl, OwnW.nil _ _, hb⟩
    ·intro hall hsm v w' ho hb
     rw [if_pos ((formB_iff s D).2 ⟨hh, hn, hall⟩), if_pos hsm]
     exact ⟨_, rfl, ho, hb⟩
   ·have hf : ¬ formB s D = true := fun hf => hn ((formB_iff s D).1 hf).2.1
    rw [if_neg hf]
    exact (runpack_few s D.length b off c w hh hl' (by omega) hc0).mono fun e w' ⟨he, hb⟩ => ⟨_, he, OwnW.nil _ _, hb⟩
end Go.Proofs.YthambopnmhkeeaaGreat.Fr
/- A journal in memory, and what its smallest calls answer: Seq, Home, Used, left, behind, grow, fits, noughts. -/
set_option maxRecDepth 100000
namespace Go.Proofs.YthambopnmhkeeaaGreat
open Go.RowKit
open Fr (bs fixL nmAt)
def JCells (p : Nat) (J : JS) : Array Value := #[.pointer (some ⟨p, 0, none⟩), .int .u64 J.e, .int .u64 J.s, .int .i64 J.log, .int .i64 J.p, .int .i64 J.side, .int .u64 J.next, .int .i64 J.full]
def Jr (t : TypeId) (w : World) (a p : Nat) (J : JS) : Prop := w.heap[a]? = some (.cells (JCells p J) t (0, 0))
section
variable {t : TypeId} {w w' : World} {a p : Nat} {J : JS}
theorem Jr.c0 (h : Jr t w a p J) : w.cell? ⟨a, 0, none⟩ = some (.pointer (some ⟨p, 0, none⟩)) := by rw [cell_at h]; rfl
theorem Jr.c1 (h : Jr t w a p J) : w.cell? ⟨a, 1, none⟩ = some (.int .u64 J.e) := by rw [cell_at h]; rfl
theorem Jr.c2 (h : Jr t w a p J) : w.cell? ⟨a, 2, none⟩ = some (.int .u64 J.s) := by rw [cell_at h]; rfl
theorem Jr.c3 (h : Jr t w a p J) : w.cell? ⟨a, 3, none⟩ = some (.int .i64 J.log) := by rw [cell_at h]; rfl
theorem Jr.c4 (h : Jr t w a p J) : w.cell? ⟨a, 4, none⟩ = some (.int .i64 J.p) := by rw [cell_at h]; rfl
theorem Jr.c5 (h : Jr t w a p J) : w.cell? ⟨a, 5, none⟩ = some (.int .i64 J.side) := by rw [cell_at h]; rfl
theorem Jr.c6 (h : Jr t w a p J) : w.cell? ⟨a, 6, none⟩ = some (.int .u64 J.next) := by rw [cell_at h]; rfl
theorem Jr.c7 (h : Jr t w a p J) : w.cell? ⟨a, 7, none⟩ = some (.int .i64 J.full) := by rw [cell_at h]; rfl
theorem Jr.f (h : Jr t w a p J) (i : Nat) : w.frozen? ⟨a, i, none⟩ = false := free_at h i
theorem Jr.lt (h : Jr t w a p J) : a < w.heap.size := (Array.getElem?_eq_some_iff.1 h).1
theorem Jr.below (h : Jr t w a p J) (hb : Below w.heap.size w w') : Jr t w' a p J := by unfold Jr; rw [hb.block a h.lt]; exact h
theorem Jr.only {S : Nat -> Prop} (h : Jr t w a p J) (ho : Only S w w') (hs : ¬ S a) : Jr t w' a p J := by unfold Jr; rw [ho.block a h.lt hs]; exact h
end
theorem pos_split (p full i log : Nat) (h0 : p < log) (h1 : full + i <= log) :
  (p + full + i < log /\ 2 + (p + full + i) % log = 2 + (p + full + i)) \/ (log <= p + full + i /\ 2 + (p + full + i) % log = 2 + (p + full + i - log)) := by
 by_cases h : p + full + i < log
 ·exact .inl ⟨h, by rw [Nat.mod_eq_of_lt h]⟩
 ·refine .inr ⟨by omega, ?_⟩
  rw [Nat.mod_eq_sub_mod (by omega), Nat.mod_eq_of_lt (by omega)]
theorem JS.Ok.pos_lt {J : JS} {n : Nat} (h : J.Ok n) (i : Nat) : 2 <= J.pos i /\ J.pos i < 2 + J.log := by
 have := Nat.mod_lt (J.p + J.full + i) (show 0 < J.log by have := h.l0; omega)
 unfold JS.pos; omega
section
variable {w : World} {a p : Nat} {J : JS} {n : Nat}
set_option maxHeartbeats 400000 in
theorem home_any (h : Jr 104 w a p J) (hl : J.log <= 4096) : Calls Tryz.prog 148 #[.pointer (some ⟨a, 0, none⟩)] w fun e w' => e = .returned (.int .i64 J.home) /\ w = w' := by
 have c := h.c3; clear h
 have e0 : (J.home : Int) = 2 + (J.log : Int) := by unfold JS.home; omega
 rw [e0]; clear e0
 generalize J.log = l at *
 go_enter Tryz.func148, Tryz.ntmps148
 go_wp2
 go_ret
 exact ⟨rfl, rfl⟩
set_option maxHeartbeats 400000 in
theorem left_drew (h : Jr 104 w a p J) (ok : J.Ok n) (hn : n <= 4096) : Calls Tryz.prog 130 #[.pointer (some ⟨a, 0, none⟩)] w fun e w' => e = .returned (.int .i64 J.left) /\ w' = w.drew := by
 have c := h.c3; have c7 := h.c7; clear h
 have h1 := ok.l1; have h2 := ok.fu
 have e0 : (J.left : Int) = (J.log : Int) - (J.full : Int) := by unfold JS.left; omega
 rw [e0]; clear e0 ok
 generalize J.log = l at *
 generalize J.full = f at *
 have w1 : IntKind.i64.wrap ((l : Int) - (f : Int)) = (l : Int) - (f : Int) := IntWalk.i64_in _ (by omega)
 go_enter Tryz.func130, Tryz.ntmps130
 go_wp2
 go_region
 go_wp2
 go_ret
 exact ⟨rfl, rfl⟩
set_option maxHeartbeats 400000 in
theorem behind_drew (i : Nat) (h : Jr 104 w a p J) (ok : J.Ok n) (hn : n <= 4096) (hi : J.full + i <= J.log) :
  Calls Tryz.prog 175 #[.pointer (some ⟨a, 0, none⟩), .int .i64 i] w fun e w' => e = .returned (.int .i64 (J.pos i)) /\ w' = w.drew := by
 have c3 := h.c3; have c4 := h.c4; have c7 := h.c7; clear h
 have h1 := ok.l1; have h2 := ok.fu; have h3 := ok.pl
 unfold JS.pos
 have hs := pos_split J.p J.full i J.log h3 hi
 clear ok
 generalize J.log = l at *
 generalize J.full = f at *
 generalize J.p = q at *
 have w1 : IntKind.i64.wrap ((q : Int) + (f : Int)) = (q : Int) + (f : Int) := IntWalk.i64_in _ (by omega)
 have w2 : IntKind.i64.wrap ((q : Int) + (f : Int) + (i : Int)) = (q : Int) + (f : Int) + (i : Int) := IntWalk.i64_in _ (by omega)
 rcases hs with ⟨hlt, e⟩ | ⟨hlt, e⟩
 ·have e' : (((2 + (q + f + i) % l : Nat)) : Int) = 2 + ((q : Int) + (f : Int) + (i : Int)) := by rw [e]; omega
  rw [e']
  have hlt' : ¬ (l : Int) <= (q : Int) + (f : Int) + (i : Int) := by omega
  have w3 : IntKind.i64.wrap (2 + ((q : Int) + (f : Int) + (i : Int))) = 2 + ((q : Int) + (f : Int) + (i : Int)) := IntWalk.i64_in _ (by omega)
  clear e e'
  go_enter Tryz.func175, Tryz.ntmps175
  go_wp2
  go_region
  go_wp2
  go_ret
  exact ⟨rfl, rfl⟩
 ·have e' : (((2 + (q + f + i) % l : Nat)) : Int) = 2 + ((q : Int) + (f : Int) + (i : Int) - (l : Int)) := by rw [e]; omega
  rw [e']
  have hlt' : (l : Int) <= (q : Int) + (f : Int) + (i : Int) := by omega
  have w3 : IntKind.i64.wrap ((q : Int) + (f : Int) + (i : Int) - (l : Int)) = (q : Int) + (f : Int) + (i : Int) - (l : Int) := IntWalk.i64_in _ (by omega)
  have w4 : IntKind.i64.wrap (2 + ((q : Int) + (f : Int) + (i : Int) - (l : Int))) = 2 + ((q : Int) + (f : Int) + (i : Int) - (l : Int)) := IntWalk.i64_in _ (by omega)
  clear e e'
  go_enter Tryz.func175, Tryz.ntmps175
  go_wp2
  go_region
  go_wp2
  go_ret
  exact ⟨rfl, rfl⟩
theorem behind_any (i : Nat) (h : Jr 104 w a p J) (ok : J.Ok n) (hn : n <= 4096) (hi : J.full + i <= J.log) :
  Calls Tryz.prog 175 #[.pointer (some ⟨a, 0, none⟩), .int .i64 i] w fun e w' => e = .returned (.int .i64 (J.pos i)) /\ Below w.heap.size w w' :=
 (behind_drew i h ok hn hi).mono fun e w' ⟨he, hw⟩ => by subst hw; exact ⟨he, (Below.refl _ _).drew⟩
theorem Jr.put {t : TypeId} {J' : JS} {i : Nat} {v : Value} (h : Jr t w a p J) (hc : (JCells p J).setIfInBounds i v = JCells p J') : Jr t (w.setCell ⟨a, i, none⟩ v) a p J' := by
 unfold Jr; rw [heap_setCell_at h, hc]
set_option maxHeartbeats 400000 in
theorem grow_any (m : Nat) (h : Jr 104 w a p J) (ok : J.Ok n) (hn : n <= 4096) (hm : m <= 5000) :
  Calls Tryz.prog 174 #[.pointer (some ⟨a, 0, none⟩), .int .i64 m] w fun e w' => e = .returned (.tuple #[]) /\ Jr 104 w' a p (J.grow m) /\ Only (fun k => k = a) w w' /\ w'.heap.size = w.heap.size := by
 have c6 := h.c6; have f6 := h.f 6; have c7 := h.c7; have f7 := h.f 7
 have h1 := ok.l1; have h2 := ok.fu
 obtain ⟨x, hx⟩ : ∃ x : Nat, x = (J.next + 1) % 18446744073709551616 := ⟨_, rfl⟩
 have wn : IntKind.u64.wrap ((J.next : Int) + 1) = (x : Int) := by rw [hx]; simp [IntKind.wrap, IntKind.bits, IntKind.signed]
 have hj : Hid (Jr 104 ((w.setCell ⟨a, 6, none⟩ (.int .u64 x)).setCell ⟨a, 7, none⟩ (.int .i64 ((J.full : Int) + (m : Int)))) a p (J.grow m)) := by
  have h1 := h.put (J' := { J with next := x }) (i := 6) (v := .int .u64 x) rfl
  exact h1.put (by unfold JS.grow; rw [<- hx]; simp [JCells])
 have HX := Lib.hid hx; clear hx
 have wf : IntKind.i64.wrap ((J.full : Int) + (m : Int)) = (J.full : Int) + (m : Int) := IntWalk.i64_in _ (by omega)
 clear ok h
 generalize J.next = nx at *
 generalize J.full = fu at *
 go_enter Tryz.func174, Tryz.ntmps174
 go_wp2
 go_end0
 exact ⟨rfl, hj.out, ((Only.refl (fun k => k = a) w).setCell (p := ⟨a, 6, none⟩) (fun _ => rfl) _).setCell (p := ⟨a, 7, none⟩) (fun _ => rfl) _, by simp [World.setCell]⟩
set_option maxHeartbeats 400000 in
theorem fits_any (log : Int) (b : Nat) (hb : b <= 4096) : Calls Tryz.prog 120 #[.int .i64 log, .int .i64 b] w fun e w' => e = .returned (.bool (decide (50 <= log /\ log <= (b : Int) - 3))) /\ w = w' := by
 by_cases h : 50 <= log
 ·by_cases h2 : log <= (b : Int) - 3
  ·have e : decide (50 <= log /\ log <= (b : Int) - 3) = true := by simp [h, h2]
   rw [e]
   have w1 : IntKind.i64.wrap ((b : Int) - 2) = (b : Int) - 2 := IntWalk.i64_in _ (by omega)
   have w2 : IntKind.i64.wrap ((b : Int) - 2 - 1) = (b : Int) - 2 - 1 := IntWalk.i64_in _ (by omega)
   have h3 : log <= (b : Int) - 2 - 1 := by omega
   clear e h2
   go_enter Tryz.func120, Tryz.ntmps120
   go_wp2
   go_ret
   exact ⟨rfl, rfl⟩
  ·have e : decide (50 <= log /\ log <= (b : Int) - 3) = false := by simp; omega
   rw [e]
   have w1 : IntKind.i64.wrap ((b : Int) - 2) = (b : Int) - 2 := IntWalk.i64_in _ (by omega)
   have w2 : IntKind.i64.wrap ((b : Int) - 2 - 1) = (b : Int) - 2 - 1 := IntWalk.i64_in _ (by omega)
   have h3 : ¬ log <= (b : Int) - 2 - 1 := by omega
   clear e h2
   go_enter Tryz.func120, Tryz.ntmps120
   go_wp2
   go_ret
   exact ⟨rfl, rfl⟩
 ·have e : decide (50 <= log /\ log <= (b : Int) - 3) = false := by simp; omega
  rw [e]
  clear e
  go_enter Tryz.func120, Tryz.ntmps120
  go_wp2
  go_ret
  exact ⟨rfl, rfl⟩
end
end Go.Proofs.YthambopnmhkeeaaGreat
/- What writeAll and settle answer and leave behind, for every journal over every device. -/
set_option maxRecDepth 100000
namespace Go.Proofs.YthambopnmhkeeaaGreat
open Go.RowKit
open Fr (SlW WritesAt)
section
variable {S S1 T : Nat -> Prop} {w w1 w2 w' : World} {a p : Nat} {J : JS} {D D1 D2 : DevS} {v : Value} {L : List (Int × ByteArray)}
def Outs (S : Nat -> Prop) (v : Value) : Prop := ∀ g off n c, v = .slice (some ⟨g, off, none⟩) n c -> ¬ S g
theorem Outs.mono (h : Outs S v) (hs : ∀ k, T k -> S k) : Outs T v := fun g off n c hv ht => h g off n c hv (hs g ht)
theorem SlW.only (h : SlW w v L) (ho : Only T w w') (hT : Outs T v) : SlW w' v L := by
 obtain ⟨ao, c, hv, hc, h⟩ := h
 refine ⟨ao, c, hv, hc, ?_⟩
 rcases h with h | ⟨b, off, e, hlt, h⟩
 ·exact .inl h
 ·subst e
  have hnt := hT b off _ _ hv
  refine .inr ⟨b, off, rfl, Nat.lt_of_lt_of_le hlt ho.size, fun j hj => ⟨?_, ?_⟩⟩
  ·rw [ho.cell (p := ⟨b, off + j * 2, none⟩) hlt hnt]; exact (h j hj).1
  ·rw [ho.cell (p := ⟨b, off + j * 2 + 1, none⟩) hlt hnt]; exact (h j hj).2
theorem Leaves.next (hS1 : ∀ k, S1 k -> S k \/ w.heap.size <= k) (ho : Only S w w1) (h : Leaves S1 w1 w2 p D2) : Leaves S w w2 p D2 := by
 obtain ⟨S2, hS2, hs, ho2⟩ := h
 refine ⟨S2, fun k hk => ?_, hs, ho.trans ho2 (fun i hi h1 => ?_)⟩
 ·rcases hS2 k hk with h | h
  ·exact hS1 k h
  ·exact .inr (Nat.le_trans ho.size h)
 ·rcases hS1 i h1 with h | h
  ·exact h
  ·omega
theorem Leaves.below (h : Leaves S w w1 p D1) (hb : Below w1.heap.size w1 w2) : Leaves S w w2 p D1 := by
 obtain ⟨S2, hS2, hs, ho2⟩ := h
 exact ⟨S2, hS2, hs.below hb, ho2.trans (Only.of_below (fun _ => False) hb (Nat.le_refl _)) (fun _ _ f => f.elim)⟩
theorem Leaves.from (hb : Below w.heap.size w w1) (h : Leaves S w1 w2 p D2) : Leaves S w w2 p D2 :=
 Leaves.next (fun _ h => .inl h) (Only.of_below S hb (Nat.le_refl _)) h
theorem Leaves.only (h : Leaves S w w1 p D1) : Only S w w1 := by obtain ⟨_, _, _, h⟩ := h; exact h
theorem Leaves.ok (h : Leaves S w w1 p D1) : D1.Ok := by obtain ⟨_, _, h, _⟩ := h; exact h.ok
theorem wrs_stop (D : DevS) (L : List (Int × ByteArray)) (k : Nat) (h : k < L.length) (h0 : (D.wrs (L.take k)).1 = 0) (he : ((D.wrs (L.take k)).2.wr L[k].1 L[k].2).1 ≠ 0) : D.wrs L = (D.wrs (L.take k)).2.wr L[k].1 L[k].2 := by
 have e1 : D.wrs (L.take (k + 1)) = (D.wrs (L.take k)).2.wr L[k].1 L[k].2 := by rw [take_snocL L k h, D.wrs_snoc _ _ h0]
 conv => lhs; rw [<- List.take_append_drop (k + 1) L]
 rw [D.wrs_err _ _ (by rw [e1]; exact he), e1]
theorem wrs_goes (D : DevS) (L : List (Int × ByteArray)) (k : Nat) (h : k < L.length) (h0 : (D.wrs (L.take k)).1 = 0) (he : ((D.wrs (L.take k)).2.wr L[k].1 L[k].2).1 = 0) : (D.wrs (L.take (k + 1))).1 = 0 /\ (D.wrs (L.take (k + 1))).2 = ((D.wrs (L.take k)).2.wr L[k].1 L[k].2).2 := by
 have e1 : D.wrs (L.take (k + 1)) = (D.wrs (L.take k)).2.wr L[k].1 L[k].2 := by rw [take_snocL L k h, D.wrs_snoc _ _ h0]
 rw [e1]; exact ⟨he, rfl⟩
set_option maxHeartbeats 1000000 in
theorem writeAll_some (b off c : Nat) (hj : Jr 104 w a p J) (hd : Stands S w p D) (ha : ¬ S a) (hl : L.length <= 10000) (hp : D.pend.length <= 900000) (hb : b < w.heap.size) (hc : WritesAt w b off L) (hs : ¬ S b) :
  Calls Tryz.prog 132 #[.pointer (some ⟨a, 0, none⟩), .slice (some ⟨b, off, none⟩) L.length c] w fun e w' => e = .returned (.int .i64 (D.wrs L).1) /\ Leaves S w w' p (D.wrs L).2 := by
 have HC := Lib.hid hc; clear hc
 have HJ := Lib.hid hj; clear hj
 have HS := Lib.hid hs; clear hs
 have HA := Lib.hid ha; clear ha
 obtain ⟨n, hn⟩ : ∃ n, L.length = n := ⟨_, rfl⟩
 rw [hn] at hl ⊢
 have HN := Lib.hid hn; clear hn
 have HD := Lib.hid hd; clear hd
 go_enter Tryz.func132, Tryz.ntmps132
 go_wp2
 go_loopw [10] (fun i wr => ∃ k : Nat, k <= n /\ i = .int .i64 k /\ Hid ((D.wrs (L.take k)).1 = 0) /\ Hid (Leaves S w wr p (D.wrs (L.take k)).2)) (fun i _ => n - (intOf i).toNat)
 case atStart => exact ⟨0, Nat.zero_le _, rfl, rfl, .mk HD.out (Only.refl _ _)⟩
 case round =>
  obtain ⟨k, hk, rfl, HK, HL⟩ := hrel
  by_cases hlt : k < n
  ·have hkL : k < L.length := by rw [HN.out]; exact hlt
   have HO := HL.out.only
   have hbr := HO.size
   obtain ⟨S1, hS1, hs1, ho1⟩ := HL.out
   have hn1 : ∀ g, g < w.heap.size -> ¬ S g -> ¬ S1 g := fun g hg hs h => by rcases hS1 g h with h | h; exact hs h; omega
   have haw := HJ.out.lt
   have c0 : wr.cell? ⟨a, 0, none⟩ = some (.pointer (some ⟨p, 0, none⟩)) := (HO.cell (p := ⟨a, 0, none⟩) haw HA.out).trans HJ.out.c0
   obtain ⟨e0, e1⟩ := HC.out k hkL
   have d0 : wr.cell? ⟨b, off + k * 2, none⟩ = some (.int .i64 L[k].1) := (HO.cell (p := ⟨b, off + k * 2, none⟩) hb HS.out).trans e0
   have d1 : wr.cell? ⟨b, off + k * 2 + 1, none⟩ = some (.string L[k].2) := (HO.cell (p := ⟨b, off + k * 2 + 1, none⟩) hb HS.out).trans e1
   have hbb : b < wr.heap.size := Nat.lt_of_lt_of_le hb hbr
   obtain ⟨X, hX⟩ : ∃ X, wr.alloc (.cells #[.int .i64 L[k].1, .string L[k].2] 63) = X := ⟨_, rfl⟩
   have hXb : Below wr.heap.size wr X := by rw [<- hX]; exact (Below.refl _ _).alloc (Nat.le_refl _) _
   have hXz : X.heap.size = wr.heap.size + 1 := by rw [<- hX]; simp
   have hXh : X.heap[wr.heap.size]? = some (.cells #[.int .i64 L[k].1, .string L[k].2] 63 (0, 0)) := by rw [<- hX, heap_alloc_new]
   have x0 : X.cell? ⟨wr.heap.size, 0, none⟩ = some (.int .i64 L[k].1) := by rw [cell_at hXh]; rfl
   have x1 : X.cell? ⟨wr.heap.size, 1, none⟩ = some (.string L[k].2) := by rw [cell_at hXh]; rfl
   have xa : X.cell? ⟨a, 0, none⟩ = some (.pointer (some ⟨p, 0, none⟩)) := (hXb.cell (p := ⟨a, 0, none⟩) (Nat.lt_of_lt_of_le haw hbr)).trans c0
   have hsX : Stands S1 X p (D.wrs (L.take k)).2 := hs1.below hXb
   have hpl : (D.wrs (L.take k)).2.pend.length <= 1000000 := by have := D.wrs_len (L.take k); rw [List.length_take] at this; omega
   have HW : Hid (∀ W, Below X.heap.size X W -> Calls Tryz.prog 28 #[.pointer (some ⟨p, 0, none⟩), .int .i64 L[k].1, .string L[k].2] W fun e w' => e = .returned (.int .i64 ((D.wrs (L.take k)).2.wr L[k].1 L[k].2).1) /\ Leaves S1 X w' p ((D.wrs (L.take k)).2.wr L[k].1 L[k].2).2) := by
    intro W hW
    exact (write_any L[k].1 L[k].2 hpl (hsX.below hW)).mono fun e w' ⟨he, hv⟩ => ⟨he, Leaves.from hW hv⟩
   have HKeep : Hid (∀ w' D', Leaves S1 X w' p D' -> w'.cell? ⟨a, 0, none⟩ = some (.pointer (some ⟨p, 0, none⟩)) /\ w'.cell? ⟨wr.heap.size, 0, none⟩ = some (.int .i64 L[k].1) /\ w'.cell? ⟨wr.heap.size, 1, none⟩ = some (.string L[k].2)) := by
    intro w' D' h
    have h1 := h.only
    have na : ¬ S1 a := hn1 a haw HA.out
    have nx : ¬ S1 wr.heap.size := fun h => by have := hs1.lt _ h; omega
    exact ⟨(h1.cell (p := ⟨a, 0, none⟩) (by rw [hXz]; show a < _; omega) na).trans xa, (h1.cell (p := ⟨wr.heap.size, 0, none⟩) (by rw [hXz]; exact Nat.lt_succ_self _) nx).trans x0, (h1.cell (p := ⟨wr.heap.size, 1, none⟩) (by rw [hXz]; exact Nat.lt_succ_self _) nx).trans x1⟩
   have HLv : Hid (∀ w' D', Leaves S1 X w' p D' -> Leaves S w w' p D') := fun w' D' h => Leaves.next hS1 ho1 (Leaves.from hXb h)
   have HSt := Lib.hid (wrs_stop D L k hkL HK.out)
   have HGo := Lib.hid (wrs_goes D L k hkL HK.out)
   clear hs1 ho1 hn1 HO e0 e1 c0 hXh hsX hpl hXb hXz haw
   have HX := Lib.hid hX; clear hX
   generalize (D.wrs (L.take k)).2.wr L[k].1 L[k].2 = R at *
   generalize L[k] = x at *
   obtain ⟨xb, xd⟩ := x
   obtain ⟨er, DR⟩ := R
   simp only at d0 d1 HX x0 x1 HW HKeep HSt HGo
   by_cases he : er = 0
   ·have he' : (er != 0) = false := by simp [he]
    obtain ⟨g0, g1⟩ := HGo.out he
    have HG0 := Lib.hid g0; have HG1 := Lib.hid g1; clear g0 g1
    go_wp2_with fail
    rw [HX.out]
    go_region_held3 (fun W => W.cell? ⟨a, 0, none⟩ = some (.pointer (some ⟨p, 0, none⟩)) /\ W.cell? ⟨wr.heap.size, 0, none⟩ = some (.int .i64 xb) /\ W.cell? ⟨wr.heap.size, 1, none⟩ = some (.string xd))
     (first | exact ⟨xa, x0, x1⟩ | exact HKeep.out _ _ (by assumption))
     (first | (go_at_call 28; refine (HW.out _ ((Below.refl _ _).drew)).mono ?_; rintro e w' ⟨rfl, hlv⟩))
    have HF := Lib.hid (HLv.out _ _ hlv)
    clear hlv
    go_wp2
    go_roundw
    case rel => exact ⟨k + 1, by omega, by go_num, HG0, by rw [HG1.out]; exact HF.out⟩
    case measure => simp [intOf]; omega
   ·have he' : (er != 0) = true := by simp [he]
    have HR := Lib.hid (HSt.out he)
    go_wp2_with fail
    rw [HX.out]
    go_region_held3 (fun W => W.cell? ⟨a, 0, none⟩ = some (.pointer (some ⟨p, 0, none⟩)) /\ W.cell? ⟨wr.heap.size, 0, none⟩ = some (.int .i64 xb) /\ W.cell? ⟨wr.heap.size, 1, none⟩ = some (.string xd))
     (first | exact ⟨xa, x0, x1⟩ | exact HKeep.out _ _ (by assumption))
     (first | (go_at_call 28; refine (HW.out _ ((Below.refl _ _).drew)).mono ?_; rintro e w' ⟨rfl, hlv⟩))
    have HF := Lib.hid (HLv.out _ _ hlv)
    clear hlv
    go_wp2
    go_ret
    exact ⟨by rw [HR.out]; rfl, by rw [HR.out]; exact HF.out⟩
  ·have hkn : k = n := by omega
   subst hkn
   have e : L.take k = L := List.take_of_length_le (by rw [HN.out]; exact Nat.le_refl _)
   have HE : Hid ((D.wrs L).1 = 0) := by show _ = _; rw [<- e]; exact HK.out
   have HF : Hid (Leaves S w wr p (D.wrs L).2) := by have := HL.out; rw [e] at this; exact this
   clear e
   go_wp2
   go_ret
   exact ⟨by rw [HE.out]; rfl, HF.out⟩
set_option maxHeartbeats 400000 in
theorem writeAll_none (ao : Option Addr) (c : Nat) :
  Calls Tryz.prog 132 #[.pointer (some ⟨a, 0, none⟩), .slice ao 0 c] w fun e w' => e = .returned (.int .i64 0) /\ w = w' := by
 go_enter Tryz.func132, Tryz.ntmps132
 go_wp2
 go_loopw [10] (fun i wr => i = .int .i64 0 /\ wr = w) (fun _ _ => 0)
 case atStart => exact ⟨rfl, rfl⟩
 case round =>
  obtain ⟨rfl, rfl⟩ := hrel
  go_wp2
  go_ret
  exact ⟨rfl, rfl⟩
theorem writeAll_any (hj : Jr 104 w a p J) (hd : Stands S w p D) (ha : ¬ S a) (hl : L.length <= 10000) (hp : D.pend.length <= 900000) (h : SlW w v L) (hs : Outs S v) :
  Calls Tryz.prog 132 #[.pointer (some ⟨a, 0, none⟩), v] w fun e w' => e = .returned (.int .i64 (D.wrs L).1) /\ Leaves S w w' p (D.wrs L).2 := by
 by_cases h0 : L = []
 ·obtain ⟨ao, c, rfl, _⟩ := h
  subst h0
  exact (writeAll_none ao c).mono fun e w' ⟨he, hw⟩ => by subst hw; exact ⟨he, .mk hd (Only.refl _ _)⟩
 ·obtain ⟨b, off, c, rfl, _, hb, hc⟩ := h.here (List.length_pos_iff.2 h0)
  exact writeAll_some b off c hj hd ha hl hp hb hc (hs b off _ _ rfl)
set_option maxHeartbeats 1000000 in
theorem jsettle_any (hj : Jr 104 w a p J) (hd : Stands S w p D) (ha : ¬ S a) (hl : L.length <= 10000) (hp : D.pend.length <= 900000) (h : SlW w v L) (hs : Outs S v) :
  Calls Tryz.prog 122 #[.pointer (some ⟨a, 0, none⟩), v] w fun e w' => e = .returned (.int .i64 (D.stl L).1) /\ Leaves S w w' p (D.stl L).2 := by
 have HW := Lib.hid (writeAll_any hj hd ha hl hp h hs)
 have hpl : (D.wrs L).2.pend.length <= 1000000 := by have := D.wrs_len L; omega
 have HP := Lib.hid hpl; clear hpl
 have HJ := Lib.hid hj; clear hj
 have HA := Lib.hid ha; clear ha
 obtain ⟨ao, c, rfl, _⟩ := h
 have HE : Hid (D.stl L = if (D.wrs L).1 ≠ 0 then D.wrs L else (D.wrs L).2.fl) := rfl
 generalize L.length = n at *
 clear hd hs hl hp
 generalize D.stl L = Z at *
 generalize D.wrs L = R at *
 obtain ⟨er, DR⟩ := R
 simp only at HW HP HE
 by_cases he : er = 0
 ·have he' : (er != 0) = false := by simp [he]
  rw [if_neg (by simpa using he)] at HE
  go_enter Tryz.func122, Tryz.ntmps122
  go_wp2_with fail
  refine HW.out.mono ?_
  rintro e w1 ⟨rfl, hv⟩
  have c0 : w1.cell? ⟨a, 0, none⟩ = some (.pointer (some ⟨p, 0, none⟩)) := (hv.only.cell (p := ⟨a, 0, none⟩) HJ.out.lt HA.out).trans HJ.out.c0
  obtain ⟨S1, hS1, hs1, ho1⟩ := hv
  have HF : Hid (Calls Tryz.prog 170 #[.pointer (some ⟨p, 0, none⟩)] w1 fun e w' => e = .returned (.int .i64 DR.fl.1) /\ Leaves S w w' p DR.fl.2) :=
   (flush_any HP.out hs1).mono fun e w' ⟨he, h1, h2⟩ => ⟨he, Leaves.next hS1 ho1 (.mk h1 h2)⟩
  clear hS1 hs1 ho1
  go_wp2_with fail
  refine HF.out.mono ?_
  rintro e w2 ⟨rfl, hv⟩
  have HV := Lib.hid hv; clear hv
  go_wp2
  go_ret
  exact ⟨by rw [HE.out]; rfl, by rw [HE.out]; exact HV.out⟩
 ·have he' : (er != 0) = true := by simp [he]
  rw [if_pos (by simpa using he)] at HE
  go_enter Tryz.func122, Tryz.ntmps122
  go_wp2_with fail
  refine HW.out.mono ?_
  rintro e w1 ⟨rfl, hv⟩
  have HV := Lib.hid hv; clear hv
  go_wp2
  go_ret
  exact ⟨by rw [HE.out]; rfl, by rw [HE.out]; exact HV.out⟩
end
end Go.Proofs.YthambopnmhkeeaaGreat
/- What check answers: why writes cannot be committed. -/
set_option maxRecDepth 100000
namespace Go.Proofs.YthambopnmhkeeaaGreat
open Go.RowKit
open Fr (SlW WritesAt)
section
variable {S : Nat -> Prop} {w w' : World} {a p : Nat} {J : JS} {D : DevS} {v : Value} {L : List (Int × ByteArray)}
set_option maxHeartbeats 1000000 in
theorem jcheck_many (ao : Option Addr) (n c : Nat) (w : World) (h : n = 0 \/ 48 < n) (hm : n <= 1000) :
  Calls Tryz.prog 128 #[.pointer (some ⟨a, 0, none⟩), .slice ao n c] w fun e w' => e = .returned (.int .i64 6) /\ Below w.heap.size w w' := by
 rcases h with rfl | h
 ·go_enter Tryz.func128, Tryz.ntmps128
  go_wp2
  go_ret
  exact ⟨rfl, Below.refl _ _⟩
 ·have h0 : ((n : Int) == 0) = false := beq_eq_false_iff_ne.2 (by omega)
  have h1 : (48 : Int) < (n : Int) := by omega
  go_enter Tryz.func128, Tryz.ntmps128
  go_wp2
  go_ret
  exact ⟨rfl, Below.refl _ _⟩
set_option maxHeartbeats 1000000 in
theorem jcheck_some (b off c : Nat) (hj : Jr 104 w a p J) (hd : Stands S w p D) (ok : J.Ok D.disk.length) (h1 : 1 <= L.length) (h2 : L.length <= 48) (hs : ∀ x ∈ L, x.2.size <= maxLen) (hb : b < w.heap.size) (hc : WritesAt w b off L) :
  Calls Tryz.prog 128 #[.pointer (some ⟨a, 0, none⟩), .slice (some ⟨b, off, none⟩) L.length c] w fun e w' => e = .returned (.int .i64 ((J.chkL D.disk.length L : Nat) : Int)) /\ Below w.heap.size w w' := by
 have HC := Lib.hid hc; clear hc
 have HS := Lib.hid hs; clear hs
 have hnd := hd.ok.few
 have hlog : J.log <= 4096 := by have := ok.l1; omega
 have CH : Hid (∀ W, Below w.heap.size w W -> Calls Tryz.prog 148 #[.pointer (some ⟨a, 0, none⟩)] W fun e w' => e = .returned (.int .i64 J.home) /\ W = w') := fun W hW => home_any (hj.below hW) hlog
 have CB : Hid (∀ W, Below w.heap.size w W -> Calls Tryz.prog 58 #[.pointer (some ⟨p, 0, none⟩)] W fun e w' => e = .returned (.int .i64 D.disk.length) /\ W = w') := fun W hW => blocks_any (hd.below hW)
 have HJ := Lib.hid hj; clear hj
 clear hd ok
 obtain ⟨nd, hnd'⟩ : ∃ n, D.disk.length = n := ⟨_, rfl⟩
 rw [hnd'] at CB hnd ⊢
 clear hnd'
 obtain ⟨n, hn⟩ : ∃ n, L.length = n := ⟨_, rfl⟩
 rw [hn] at h1 h2 ⊢
 have HN := Lib.hid hn; clear hn
 have h0 : ((n : Int) == 0) = false := beq_eq_false_iff_ne.2 (by omega)
 have h3 : ¬ (48 : Int) < (n : Int) := by omega
 have hho : J.home <= 4100 := by unfold JS.home; omega
 go_enter Tryz.func128, Tryz.ntmps128
 go_wp2
 go_loopw [17] (fun i wr => ∃ k : Nat, k <= n /\ i = .int .i64 k /\ Hid (J.chkL nd L = J.chkL nd (L.drop k)) /\ Hid (Below w.heap.size w wr)) (fun i _ => n - (intOf i).toNat)
 case atStart => exact ⟨0, Nat.zero_le _, rfl, rfl, Below.refl _ _⟩
 case round =>
  obtain ⟨k, hk, rfl, HK, HB⟩ := hrel
  have hbr := HB.out.size
  by_cases hlt : k < n
  ·have hkL : k < L.length := by rw [HN.out]; exact hlt
   obtain ⟨c0, c1⟩ := (HC.out.below HB.out hb) k hkL
   have hsz := HS.out L[k] (List.getElem_mem hkL)
   unfold maxLen at hsz
   have ca := (HJ.out.below HB.out).c0
   have hal := (HJ.out.below HB.out).lt
   obtain ⟨X, hX⟩ : ∃ X, wr.alloc (.cells #[.int .i64 L[k].1, .string L[k].2] 63) = X := ⟨_, rfl⟩
   have hXb : Below wr.heap.size wr X := by rw [<- hX]; exact (Below.refl _ _).alloc (Nat.le_refl _) _
   have hXh : X.heap[wr.heap.size]? = some (.cells #[.int .i64 L[k].1, .string L[k].2] 63 (0, 0)) := by rw [<- hX, heap_alloc_new]
   have x0 : X.cell? ⟨wr.heap.size, 0, none⟩ = some (.int .i64 L[k].1) := by rw [cell_at hXh]; rfl
   have x1 : X.cell? ⟨wr.heap.size, 1, none⟩ = some (.string L[k].2) := by rw [cell_at hXh]; rfl
   have xa : X.cell? ⟨a, 0, none⟩ = some (.pointer (some ⟨p, 0, none⟩)) := (hXb.cell (p := ⟨a, 0, none⟩) hal).trans ca
   have HXW : Hid (Below w.heap.size w X) := HB.out.trans (hXb.mono hbr)
   have HX := Lib.hid hX; clear hX hXb hXh ca
   by_cases hx : J.chk1 nd L[k] = 0
   ·obtain ⟨g0, g1, g2⟩ := (J.chk1_ok nd _).1 hx
    have HK2 : Hid (J.chkL nd L = J.chkL nd (L.drop (k + 1))) := by show _ = _; rw [HK.out, J.chkL_drop nd L k hkL hx]
    clear hx
    generalize L[k] = x at *
    obtain ⟨xb, xd⟩ := x
    simp only at c0 c1 x0 x1 g0 g1 g2 hsz HX
    have hne : ((xd.size : Int) != 256) = false := by simp; omega
    have d1 : decide (xb < (J.home : Int)) = false := decide_eq_false (by omega)
    have d2 : decide ((nd : Int) <= xb) = false := decide_eq_false (by omega)
    have d1' : ¬ xb < (J.home : Int) := by omega
    have d2' : ¬ (nd : Int) <= xb := by omega
    generalize J.home = ho at *
    go_wp2_with fail
    rw [HX.out]
    go_region_held3 (fun W => W.cell? ⟨a, 0, none⟩ = some (.pointer (some ⟨p, 0, none⟩)) /\ W.cell? ⟨wr.heap.size, 0, none⟩ = some (.int .i64 xb))
     (first | exact ⟨xa, x0⟩ | assumption)
     (first | (go_at_call 148; refine (CH.out _ ?_).mono ?_; exact HXW.out.drew; rintro e w' ⟨rfl, rfl⟩) | (go_at_call 58; refine (CB.out _ ?_).mono ?_; exact HXW.out.drew; rintro e w' ⟨rfl, rfl⟩))
    go_wp2
    go_roundw
    case rel => exact ⟨k + 1, by omega, by go_num, HK2, HXW.out.drew⟩
    case measure => simp [intOf]; omega
   ·have HE := Lib.hid (show J.chkL nd L = J.chk1 nd L[k] by rw [HK.out, J.chkL_at nd L k hkL hx])
    generalize L[k] = x at *
    obtain ⟨xb, xd⟩ := x
    simp only at c0 c1 x0 x1 hsz HX
    unfold JS.chk1 at hx HE
    simp only at hx HE
    by_cases hr : xb < (J.home : Int) \/ (nd : Int) <= xb
    ·rw [if_pos hr] at HE
     clear hx
     generalize J.home = ho at *
     by_cases hr1 : xb < (ho : Int)
     ·have d1 : decide (xb < (ho : Int)) = true := decide_eq_true hr1
      clear hr
      go_wp2_with fail
      rw [HX.out]
      go_quiet ((go_at_call 148; refine Calls.quiet_of_same (((CH.out _ ?_).mono (fun e w' h => ⟨h.1, h.2.symm⟩)));  exact ⟨HXW.out.os, HXW.out.tape, HXW.out.output, HXW.out.size, HXW.out.block⟩))
      go_wp2
      go_ret
      exact ⟨by rw [HE.out]; rfl, Fr.below_drewN HXW.out _⟩
     ·have hr2 : (nd : Int) <= xb := by omega
      have d1 : decide (xb < (ho : Int)) = false := decide_eq_false hr1
      have d2 : decide ((nd : Int) <= xb) = true := decide_eq_true hr2
      clear hr
      go_wp2_with fail
      rw [HX.out]
      go_region_held3 (fun W => W.cell? ⟨a, 0, none⟩ = some (.pointer (some ⟨p, 0, none⟩)) /\ W.cell? ⟨wr.heap.size, 0, none⟩ = some (.int .i64 xb))
       (first | exact ⟨xa, x0⟩ | assumption)
       (first | (go_at_call 148; refine (CH.out _ ?_).mono ?_; exact HXW.out.drew; rintro e w' ⟨rfl, rfl⟩) | (go_at_call 58; refine (CB.out _ ?_).mono ?_; exact HXW.out.drew; rintro e w' ⟨rfl, rfl⟩))
      go_wp2
      go_ret
      exact ⟨by rw [HE.out]; rfl, HXW.out.drew⟩
    ·rw [if_neg hr] at hx HE
     have d1 : decide (xb < (J.home : Int)) = false := decide_eq_false (by omega)
     have d2 : decide ((nd : Int) <= xb) = false := decide_eq_false (by omega)
     have d1' : ¬ xb < (J.home : Int) := by omega
     have d2' : ¬ (nd : Int) <= xb := by omega
     clear hr
     by_cases hz : xd.size ≠ 256
     ·rw [if_pos hz] at HE
      clear hx
      have hne : ((xd.size : Int) != 256) = true := by simp; omega
      clear hz
      generalize J.home = ho at *
      go_wp2_with fail
      rw [HX.out]
      go_region_held3 (fun W => W.cell? ⟨a, 0, none⟩ = some (.pointer (some ⟨p, 0, none⟩)) /\ W.cell? ⟨wr.heap.size, 0, none⟩ = some (.int .i64 xb))
       (first | exact ⟨xa, x0⟩ | assumption)
       (first | (go_at_call 148; refine (CH.out _ ?_).mono ?_; exact HXW.out.drew; rintro e w' ⟨rfl, rfl⟩) | (go_at_call 58; refine (CB.out _ ?_).mono ?_; exact HXW.out.drew; rintro e w' ⟨rfl, rfl⟩))
      go_wp2
      go_ret
      exact ⟨by rw [HE.out]; rfl, HXW.out.drew⟩
     ·rw [if_neg hz] at hx; exact absurd rfl hx
  ·have hkn : k = n := by omega
   subst hkn
   have HE : Hid (J.chkL nd L = 0) := by show _ = _; rw [HK.out, List.drop_of_length_le (by rw [HN.out]; exact Nat.le_refl _)]; rfl
   go_wp2
   go_ret
   exact ⟨by rw [HE.out]; rfl, HB.out⟩
theorem jcheck_any (hj : Jr 104 w a p J) (hd : Stands S w p D) (ok : J.Ok D.disk.length) (hl : L.length <= 1000) (hs : ∀ x ∈ L, x.2.size <= maxLen) (h : SlW w v L) :
  Calls Tryz.prog 128 #[.pointer (some ⟨a, 0, none⟩), v] w fun e w' => e = .returned (.int .i64 ((J.chk D.disk.length L : Nat) : Int)) /\ Below w.heap.size w w' := by
 unfold JS.chk
 by_cases h0 : L.length = 0 \/ 48 < L.length
 ·rw [if_pos h0]
  obtain ⟨ao, c, rfl, _⟩ := h
  exact jcheck_many ao _ c w h0 hl
 ·rw [if_neg h0]
  obtain ⟨b, off, c, rfl, _, hb, hc⟩ := h.here (by omega)
  exact jcheck_some b off c hj hd ok (by omega) (by omega) hs hb hc
end
end Go.Proofs.YthambopnmhkeeaaGreat
/- What Checkpoint, add and Commit keep: in plain lists. -/
namespace Go.Proofs.YthambopnmhkeeaaGreat
open Go.RowKit
section
variable {J : JS} {D : DevS} {n : Nat} {L : List (Int × ByteArray)}
theorem JS.Ok.next' (h : J.Ok n) : J.next'.Ok n := by
 have hp := h.pos_lt 0
 exact ⟨h.l0, h.l1, by show J.pos 0 - 2 < J.log; omega, by show 1 - J.side <= 1; omega, Nat.zero_le _, Nat.mod_lt _ (by omega), h.n64, h.n64⟩
theorem JS.Ok.grow (h : J.Ok n) (m : Nat) (hm : J.full + m <= J.log) : (J.grow m).Ok n :=
 ⟨h.l0, h.l1, h.pl, h.si, hm, h.e64, h.s64, Nat.mod_lt _ (by omega)⟩
theorem JS.ckp_good (h : (J.ckp D).1 = 0) : (J.ckp D).2.2 = J.next' := by
 unfold JS.ckp at *
 simp only at *
 split
 ·rename_i h1; rw [if_pos h1] at h; exact absurd h h1
 ·rename_i h1
  rw [if_neg h1] at h
  split
  ·rename_i h2; rw [if_pos h2] at h; exact absurd h h2
  ·rfl
theorem JS.ckp_disk : (J.ckp D).2.1.disk.length = D.disk.length := by
 unfold JS.ckp
 simp only
 split
 ·exact D.stl_disk _
 ·split
  ·rw [DevS.stl_disk, DevS.stl_disk]
  ·rw [DevS.stl_disk, DevS.stl_disk]
theorem JS.ckp_len : (J.ckp D).2.1.pend.length <= D.pend.length + 2 := by
 unfold JS.ckp
 simp only
 split
 ·have := D.stl_len [(((J.pos 0 : Nat) : Int), noughts)]; simp at this; show (D.stl [(((J.pos 0 : Nat) : Int), noughts)]).2.pend.length <= _; omega
 ·have h1 := D.stl_len [(((J.pos 0 : Nat) : Int), noughts)]
  have h2 := (D.stl [(((J.pos 0 : Nat) : Int), noughts)]).2.stl_len [(((1 - J.side : Nat) : Int), slotB ((J.e + 1) % 18446744073709551616) J.next J.log (J.pos 0 - 2))]
  simp at h1 h2
  split <;> (simp only; omega)
theorem JS.addF_disk {top : ByteArray} {ds : List ByteArray} : (J.addF D top ds).2.1.disk.length = D.disk.length := by
 unfold JS.addF
 simp only
 split
 ·exact D.stl_disk _
 ·split
  ·rw [DevS.stl_disk, DevS.stl_disk]
  ·rw [DevS.stl_disk, DevS.stl_disk]
theorem JS.dataW_len (ds : List ByteArray) : (J.dataW ds).length = ds.length + 1 := by simp [JS.dataW]
theorem JS.addF_len {top : ByteArray} {ds : List ByteArray} : (J.addF D top ds).2.1.pend.length <= D.pend.length + ds.length + 2 := by
 unfold JS.addF
 simp only
 split
 ·have := D.stl_len (J.dataW ds); rw [JS.dataW_len] at this; show (D.stl (J.dataW ds)).2.pend.length <= _; omega
 ·have h1 := D.stl_len (J.dataW ds)
  have h2 := (D.stl (J.dataW ds)).2.stl_len [(((J.pos 0 : Nat) : Int), top)]
  rw [JS.dataW_len] at h1
  simp at h2
  split <;> (simp only; omega)
theorem JS.addF_err {top : ByteArray} {ds : List ByteArray} (h : (J.addF D top ds).1 ≠ 0) : (J.addF D top ds).2.2 = J := by
 unfold JS.addF at *
 simp only at *
 split
 ·rfl
 ·rename_i h1
  rw [if_neg h1] at h
  split
  ·rfl
  ·rename_i h2; rw [if_neg h2] at h; exact absurd rfl h
theorem JS.addF_good {top : ByteArray} {ds : List ByteArray} (h : (J.addF D top ds).1 = 0) : (J.addF D top ds).2.2 = J.grow (ds.length + 1) := by
 unfold JS.addF at *
 simp only at *
 split
 ·rename_i h1; rw [if_pos h1] at h; exact absurd h h1
 ·rename_i h1
  rw [if_neg h1] at h
  split
  ·rename_i h2; rw [if_pos h2] at h; exact absurd h h2
  ·rfl
end
end Go.Proofs.YthambopnmhkeeaaGreat
