/- The document's own store: Format of a new device. -/
import Derived.Test.YthambopnmhkeeaaGreatZSOpen
import Derived.Test.YthambopnmhkeeaaGreatZSSteady
import Derived.Test.YthambopnmhkeeaaGreatZMMake
import Derived.Test.YthambopnmhkeeaaGreatZVCkp
import Derived.Test.YthambopnmhkeeaaGreatZVOpen

set_option maxRecDepth 100000
namespace Go.Proofs.YthambopnmhkeeaaGreat
open Go.RowKit
open Fr (OwnW SlW flatI own_pushW two_cells two_one)
theorem own_litW {B : Nat} {w : World} (hB : B <= w.heap.size) (b : Int) (s : ByteArray) : OwnW B (w.alloc (.cells #[.int .i64 b, .string s] 63)) (.slice (some ⟨w.heap.size, 0, none⟩) 1 1) [(b, s)] :=
 ⟨rfl, .inr ⟨w.heap.size, 1, #[.int .i64 b, .string s], rfl, hB, heap_alloc_new .., Nat.le_refl _, by unfold maxLen; omega, rfl, rfl⟩⟩
def fmtP (n k : Nat) : List (Int × ByteArray) := ((62 : Int), labelB n) :: mapL k (TS.emptyM n)
theorem fmtP_succ (n k : Nat) : fmtP n (k + 1) = fmtP n k ++ [(((63 + k : Nat) : Int), txt (blkM (TS.emptyM n) k))] := by unfold fmtP; rw [mapL_succ]; rfl
theorem fmtP_len (n k : Nat) : (fmtP n k).length = k + 1 := by unfold fmtP; rw [List.length_cons, mapL_len]
theorem fmtP_all (n : Nat) : fmtP n (nbM n) = fmtW n := rfl
set_option maxHeartbeats 4000000 in
theorem rformat7_pack (n : Nat) (h1 : 128 <= n) (h2 : n <= 4096) : ∃ DC J2 F G, Sync 4 n J2 DC G F /\ (∀ b : Nat, 62 <= b -> b < n -> G b = H0 n b) /\ DC.fused = false /\ DC.pend.length <= 200 /\
  ∀ (S : Nat -> Prop) w r, RStands S w r (DevS.made n) -> Calls Tryz.prog 27 #[.pointer (some ⟨r, 0, none⟩)] w fun e w' => e = .returned (.int .i64 0) /\ Hid (RLeaves S w w' r DC) := by
 obtain ⟨DF, DO, DC, J2, F, G, f1, f2, f3, f4, f5, f6, f7, f8, f9, f10⟩ := formed n h1 h2
 refine ⟨DC, J2, F, G, f7, f8, f9, f10, fun S w r hd => ?_⟩
 obtain ⟨i0, hi, hz0, hz1, hz2⟩ := info_parts Tryz.infoW
 have HZ2 := Lib.hid hz2; clear hz2
 have hmp : (DevS.made n).pend = [] := rfl
 have hml : (DevS.made n).disk.length = n := by simp [DevS.made]
 have c0 : ∃ q lcap, w.cell? ⟨r, 0, none⟩ = some (.slice (some ⟨q, 0, none⟩) n lcap) := by
  obtain ⟨q, lcap, pv, href⟩ := id hd
  have := href.c0
  rw [hml] at this
  exact ⟨q, lcap, this⟩
 obtain ⟨q, lcap, c0⟩ := c0
 have CFm : Hid (Calls Tryz.prog 76 #[.pointer (some ⟨r, 0, none⟩), .int .i64 60] w fun e w' => e = .returned (.int .i64 0) /\ RLeaves S w w' r DF) := by
  have := vformat_any (w := w) 60 hd (by rw [hmp]; simp) (by omega)
  rw [f1] at this; exact this
 have CJ : Hid (∀ (S' : Nat -> Prop) W, RStands S' W r DF -> Calls Tryz.prog 77 #[.pointer (some ⟨r, 0, none⟩)] W fun e w' => ∃ a S2, e = .returned (.tuple #[.pointer (some ⟨a, 0, none⟩), .int .i64 0]) /\ Hid ((∀ k, S2 k -> S' k \/ W.heap.size <= k) /\ RStands S2 w' r DO /\ Only S' W w' /\ W.heap.size <= a /\ ¬ S2 a /\ Jr 136 w' a r Jb)) := fun S' W h => by
  refine (vopen_any (w := W) h (by rw [f2]; simp)).mono fun e w' hO => ?_
  unfold VOpened at hO
  rw [f3] at hO
  obtain ⟨S2, g1, g2, g3, a, g4, g5, g6, g7⟩ := hO
  exact ⟨a, S2, g4, g1, g2, g3, g5, g6, g7⟩
 have hnb : nbM n = (n + 2047) / 2048 := rfl
 have hq : firstD n = 63 + nbM n := rfl
 have hms : Bm.makeS (2048 * ((nbM n : Nat) : Int)) = txt (List.replicate (256 * nbM n) 0) := by
  unfold Bm.makeS
  rw [if_pos (by omega), show ((2048 * ((nbM n : Nat) : Int)).toNat + 7) / 8 = 256 * nbM n by omega]
  rfl
 have hst : Bm.setV (txt (List.replicate (256 * nbM n) 0)).data.toList 0 (63 + ((nbM n : Nat) : Int)) true = .tuple #[.string (txt (TS.emptyM n)), .bool true] := by
  have := Bm.setV_yes (txt (List.replicate (256 * nbM n) 0)).data.toList 0 (firstD n) true (by rw [txt_data, List.length_replicate]; omega)
  rw [show ((firstD n : Nat) : Int) = 63 + ((nbM n : Nat) : Int) by omega] at this
  exact this
 have CMk : Hid (∀ W, Calls Tryz.prog 80 #[.int .i64 (2048 * ((nbM n : Nat) : Int))] W fun e w' => e = .returned (.string (txt (List.replicate (256 * nbM n) 0))) /\ Below W.heap.size W w') := fun W => by rw [<- hms]; exact Bm.rmake_any _ W (by omega)
 have CSt : Hid (∀ W, Calls Tryz.prog 79 #[.string (txt (List.replicate (256 * nbM n) 0)), .int .i64 0, .int .i64 (63 + ((nbM n : Nat) : Int)), .bool true] W fun e w' => e = .returned (.tuple #[.string (txt (TS.emptyM n)), .bool true]) /\ Below W.heap.size W w') := fun W => by
  rw [<- hst]
  exact Bm.rset_any (txt (List.replicate (256 * nbM n) 0)) 0 (63 + ((nbM n : Nat) : Int)) true W (by rw [txt_size, List.length_replicate]; omega) (by omega) (by omega)
 have CBB : Hid (∀ W, Calls Tryz.prog 78 #[.int .i64 (n : Int)] W fun e w' => e = .returned (.int .i64 ((nbM n : Nat) : Int)) /\ W = w') := fun W => rbitb_any n h2 W
 have CSu : Hid (∀ W, Calls Tryz.prog 81 #[.int .i64 (n : Int)] W fun e w' => e = .returned (.string (labelB n)) /\ Hid (Below W.heap.size W w')) := fun W => rsuper_any n h2 W
 have hEl : (txt (TS.emptyM n)).size = 256 * nbM n := by rw [txt_size, TS.empty_len]
 have HX : Hid (∀ k, (txt (TS.emptyM n)).extract (256 * k) (256 * k + 256) = txt (blkM (TS.emptyM n) k)) := fun k => txt_blk _ k
 have HPs : Hid (∀ k, fmtP n (k + 1) = fmtP n k ++ [(((63 + k : Nat) : Int), txt (blkM (TS.emptyM n) k))]) := fun k => fmtP_succ n k
 have HPl : Hid (∀ k, (fmtP n k).length = k + 1) := fun k => fmtP_len n k
 have HPa : Hid (fmtP n (nbM n) = fmtW n) := fmtP_all n
 have HP0 : Hid (fmtP n 0 = [((62 : Int), labelB n)]) := rfl
 have CC : Hid (∀ (S' : Nat -> Prop) B W u a, RStands S' W r DO -> Jr 136 W a r Jb -> ¬ S' a -> a < B -> (∀ k, S' k -> k < B) -> OwnW B W u (fmtW n) -> Calls Tryz.prog 82 #[.pointer (some ⟨a, 0, none⟩), u] W fun e w' => e = .returned (.int .i64 0) /\ RJLeaves S' W w' a r DC J2) := fun S' B W u a hs hj hn hB2 hBs hu => by
  have hlen := fmtW_len n
  obtain ⟨g, cc, rfl, _, hgB, hgl, _, _⟩ := hu.here (by omega)
  have := vcommit_any (w := W) (L := fmtW n) hj hs hn f5 (by rw [f4]; simp) (by omega) (fun x hx => by rw [(fmtW_mem h1 hx).2.2.1]; unfold maxLen; omega) hu.sl
   (fun g' o n' c' hv hg => by cases hv; have := hBs _ hg; omega) ⟨fun g' o n' c' hv => by cases hv; exact hgl, fun g' o n' c' hv => by cases hv; omega⟩
  rw [f6] at this; exact this
 clear f1 f2 f3 f4 f5 f6 f7 f8 f9 f10 hmp hml hd hms hst
 obtain ⟨m, hm⟩ : ∃ m, nbM n = m := ⟨_, rfl⟩
 rw [hm] at CMk CSt CBB HPa hEl hnb
 have hm1 : 1 <= m := by omega
 have hm2 : m <= 2 := by omega
 generalize labelB n = LB at *
 generalize txt (TS.emptyM n) = E at *
 generalize txt (List.replicate (256 * m) 0) = Z at *
 have e1 : E.size <= 256 * m := by omega
 have e2 : 256 * m <= E.size := by omega
 clear hEl hm hnb hq
 go_enter Tryz.func27, Tryz.ntmps27
 go_wp2_with fail
 refine CFm.out.mono ?_
 rintro e w2 ⟨rfl, hv2⟩
 obtain ⟨S2, hS2, hs2, ho2⟩ := hv2
 have CJ2 := Lib.hid (CJ.out S2 w2 hs2)
 have HS2 := Lib.hid hS2; have HO2 := Lib.hid ho2
 clear hS2 hs2 ho2 CJ CFm
 go_wp2_with fail
 refine CJ2.out.mono ?_
 rintro e w3 ⟨a, S3, rfl, HJ⟩
 clear CJ2
 go_wp2_with fail
 refine (CBB.out _).mono ?_
 rintro e w3' ⟨rfl, rfl⟩
 go_wp2_with fail
 refine (CBB.out _).mono ?_
 rintro e w3' ⟨rfl, rfl⟩
 go_wp2_with fail
 refine (CMk.out _).mono ?_
 rintro e w4 ⟨rfl, hb4⟩
 have HB4 := Lib.hid hb4; clear hb4
 go_wp2_with fail
 refine (CSt.out _).mono ?_
 rintro e w5 ⟨rfl, hb5⟩
 have HB5 : Hid (Below w3.heap.size w3 w5) := HB4.out.trans (hb5.mono HB4.out.size)
 clear hb5 HB4 CMk CSt
 go_wp2_with fail
 refine (CSu.out _).mono ?_
 rintro e w6 ⟨rfl, hb6⟩
 have HB6 : Hid (Below w3.heap.size w3 w6) := HB5.out.trans (hb6.out.mono HB5.out.size)
 clear hb6 HB5 CSu
 have hz6 := HB6.out.size
 have HO6 : Hid (OwnW w3.heap.size (w6.alloc (.cells #[.int .i64 62, .string LB] 63)) (.slice (some ⟨w6.heap.size, 0, none⟩) 1 1) (fmtP n 0)) := by
  show OwnW _ _ _ _
  rw [HP0.out]; exact own_litW hz6 _ _
 have HB7 : Hid (Below w3.heap.size w3 (w6.alloc (.cells #[.int .i64 62, .string LB] 63))) := HB6.out.alloc hz6 _
 go_wp2_with fail
 go_loopw [10, 11] (fun wv i wr => ∃ k : Nat, k <= m /\ i = .int .i64 (k : Int) /\ Hid (OwnW w3.heap.size wr wv (fmtP n k)) /\ Hid (Below w3.heap.size w3 wr)) (fun _ i _ => m - (intOf i).toNat)
 case atStart => exact ⟨0, Nat.zero_le _, rfl, HO6.out, HB7.out⟩
 case round =>
  obtain ⟨k, hk, rfl, HO, HB⟩ := hrel
  have hbr := HB.out.size
  by_cases hlt : k < m
  ·have z0 : ((k : Int) < (m : Int)) := by omega
   have HSN := Lib.hid (HPs.out k)
   have hlen := HPl.out k
   have HXX := Lib.hid (HX.out k)
   obtain ⟨M, hM⟩ : ∃ M, fmtP n k = M := ⟨_, rfl⟩
   rw [hM] at HO HSN hlen
   clear hM
   obtain ⟨ao2, c2, hv, _⟩ := HO.out.sl
   subst hv
   have hcap : M.length <= c2 := by obtain ⟨_, _, h, _⟩ := HO.out.sl; omega
   have i1 : 256 * (k : Int) < (E.size : Int) := by omega
   have i2 : 256 * (k : Int) + 256 <= (E.size : Int) := by omega
   have i3 : 256 * k + 256 <= E.size := by omega
   have HV : Hid (∀ w9 v1, w9.ownsRow w3.heap.size 63 2 v1 (M.length + 1) (flatI M ++ [.int .i64 (63 + (k : Int)), .string (E.extract (256 * k) (256 * k + 256))]) -> OwnW w3.heap.size w9 v1 (fmtP n (k + 1))) := fun w9 v1 hown => by
    rw [HSN.out, <- HXX.out]
    have e : (((63 + k : Nat) : Int)) = 63 + (k : Int) := by omega
    rw [e]
    exact own_pushW hown
   rw [hlen] at HV hcap
   have HOr : Hid (wr.ownsRow w3.heap.size 63 2 (.slice ao2 (k + 1) c2) (k + 1) (flatI M)) := by
    have := HO.out; unfold OwnW at this; rw [hlen] at this; exact this
   rw [hlen]
   clear hlen HXX HSN HO
   go_wp2_with fail
   refine (CBB.out _).mono ?_
   rintro e wr' ⟨rfl, rfl⟩
   go_wp2_with (at_builtin; go_loud (refine wpList_append_own _ rfl _ _ 49 rfl w3.heap.size 63 i0 _ 2 24 Tryz.underlying49 hi hz0 hz1 HZ2.out rfl (by decide) _ _ _ rfl (Fr.own_below HOr.out ((Below.refl _ _).alloc (Nat.le_refl _) _)) _ 1 1 [.int .i64 (63 + (k : Int)), .string (E.extract (256 * k) (256 * k + 256))] rfl rfl (two_cells rfl) two_one ?c3 ?c4 ?c5 ?_))
   case c3 => unfold maxLen; omega
   case c4 => omega
   case c5 => simp; omega
   intro v1 w9 hown hgrow _
   have HO3 := Lib.hid (HV.out _ _ hown)
   have HB3 : Hid (Below w3.heap.size w3 w9) := (HB.out.alloc hbr _).grown hgrow (by simp; omega) (fun q hq => (HOr.out.lt q hq).1)
   clear hown hgrow HOr HV
   go_wp2
   go_roundw
   case rel => exact ⟨k + 1, by omega, by go_num, HO3.out, HB3.out⟩
   case measure => simp [intOf]; omega
  ·obtain rfl : k = m := by omega
   have z0 : ¬ ((k : Int) < (k : Int)) := by omega
   have HOF : Hid (OwnW w3.heap.size wr u10 (fmtW n)) := by show OwnW _ _ _ _; rw [<- HPa.out]; exact HO.out
   go_wp2_with fail
   refine (CBB.out _).mono ?_
   rintro e wr' ⟨rfl, rfl⟩
   obtain ⟨j1, j2, j3, j4, j5, j6⟩ := HJ.out
   have hlt3 := j2.lt
   have hja := j6.lt
   have CC2 := Lib.hid (CC.out S3 w3.heap.size wr u10 a (j2.below HB.out) (j6.below HB.out) j5 hja hlt3 HOF.out)
   have hz2 := HO2.out.size
   have hz3 := j3.size
   have HFin : Hid (∀ w8, RJLeaves S3 wr w8 a r DC J2 -> RLeaves S w w8 r DC) := fun w8 ⟨S8, g1, g2, g3, g4⟩ => by
    refine ⟨S8, fun k hk => ?_, g2, ?_⟩
    ·rcases g1 k hk with h | h
     ·rcases j1 k h with h | h
      ·exact HS2.out k h
      ·exact .inr (by omega)
     ·exact .inr (by omega)
    ·refine (HO2.out.trans (j3.trans (Only.of_below S2 HB.out (Nat.le_refl _)) (fun _ _ h => h)) (fun k hk h => ?_)).trans g4 (fun k hk h => ?_)
     ·rcases HS2.out k h with h | h
      ·exact h
      ·omega
     ·rcases h with h | h
      ·rcases j1 k h with h | h
       ·rcases HS2.out k h with h | h
        ·exact h
        ·omega
       ·omega
      ·omega
   clear j1 j2 j3 j4 j5 j6 CC HJ HO HB HOF
   go_wp2_with fail
   refine CC2.out.mono ?_
   rintro e w8 ⟨rfl, hv8⟩
   have HL := Lib.hid (HFin.out w8 hv8)
   clear hv8 HFin CC2
   go_wp2
   go_ret
   exact ⟨rfl, HL.out⟩
end Go.Proofs.YthambopnmhkeeaaGreat
/- The document's own store: what its small parts tell of a store that was just opened, and Open. -/
set_option maxRecDepth 100000
namespace Go.Proofs.YthambopnmhkeeaaGreat
open Go.RowKit
structure Rq (w : World) (s a r n : Nat) (J : JS) (D : DevS) (H : Int -> ByteArray) : Prop where
 hs : w.heap[s]? = some (.cells #[.pointer (some ⟨a, 0, none⟩), .bool false, .slice none 0 0] 132 (0, 0))
 jr : Jr 136 w a r J
 dv : ∃ S, RStands S w r D
 rd : ∀ k : Nat, 62 <= k -> k < n -> D.rd (k : Int) = (H (k : Int), 0)
 len : D.disk.length = n
 pd : D.pend.length <= 1000000
 ho : HomeOk n H
section
variable {w w' : World} {s a r n : Nat} {J : JS} {D : DevS} {H : Int -> ByteArray}
theorem Rq.below (h : Rq w s a r n J D H) (hb : Below w.heap.size w w') : Rq w' s a r n J D H :=
 ⟨by rw [hb.block s (Array.getElem?_eq_some_iff.1 h.hs).1]; exact h.hs, h.jr.below hb, by obtain ⟨S, d⟩ := h.dv; exact ⟨S, d.below hb⟩, h.rd, h.len, h.pd, h.ho⟩
theorem Rq.c0 (h : Rq w s a r n J D H) : w.cell? ⟨s, 0, none⟩ = some (.pointer (some ⟨a, 0, none⟩)) := by rw [cell_at h.hs]; rfl
theorem Rq.c2 (h : Rq w s a r n J D H) : w.cell? ⟨s, 2, none⟩ = some (.slice none 0 0) := by rw [cell_at h.hs]; rfl
theorem Rq.cl (h : Rq w s a r n J D H) : ∃ q lcap, w.cell? ⟨r, 0, none⟩ = some (.slice (some ⟨q, 0, none⟩) n lcap) := by
 obtain ⟨S, q, lcap, pv, href⟩ := h.dv
 have := href.c0
 rw [h.len] at this
 exact ⟨q, lcap, this⟩
set_option maxHeartbeats 400000 in
theorem rblocks7_any (h : Rq w s a r n J D H) : Calls Tryz.prog 61 #[.pointer (some ⟨s, 0, none⟩)] w fun e w' => e = .returned (.int .i64 (n : Int)) /\ w = w' := by
 have c0 := h.c0; have j0 := h.jr.c0
 obtain ⟨q, lcap, cl⟩ := h.cl
 clear h
 go_enter Tryz.func61, Tryz.ntmps61
 go_wp2
 go_ret
 exact ⟨rfl, rfl⟩
set_option maxHeartbeats 400000 in
theorem rfirst7_any (h : Rq w s a r n J D H) : Calls Tryz.prog 33 #[.pointer (some ⟨s, 0, none⟩)] w fun e w' => e = .returned (.int .i64 (63 + ((nbM n : Nat) : Int))) /\ w = w' := by
 have CB := Lib.hid (rblocks7_any h)
 have CM := Lib.hid (rbitb_any n h.ho.n4)
 have hm : nbM n <= 2 := by have := h.ho.n4; unfold nbM; omega
 generalize nbM n = m at *
 clear h
 go_enter Tryz.func33, Tryz.ntmps33
 go_wp2_with fail
 refine CB.out.mono ?_
 rintro e w1 ⟨rfl, rfl⟩
 go_wp2_with fail
 refine (CM.out _).mono ?_
 rintro e w1 ⟨rfl, rfl⟩
 go_wp2
 go_ret
 exact ⟨rfl, rfl⟩
set_option maxHeartbeats 1000000 in
theorem rdata7_any (h : Rq w s a r n J D H) (k : Nat) (h1 : 62 <= k) (h2 : k < n) : Calls Tryz.prog 88 #[.pointer (some ⟨s, 0, none⟩), .int .i64 (k : Int)] w fun e w' => e = .returned (.string (H (k : Int))) /\ w = w' := by
 have c0 := h.c0; have c2 := h.c2; have j0 := h.jr.c0
 have CR : Hid (Calls Tryz.prog 138 #[.pointer (some ⟨r, 0, none⟩), .int .i64 (k : Int)] w fun e w' => e = .returned (.tuple #[.string (H (k : Int)), .int .i64 0]) /\ w = w') := by
  obtain ⟨S, d⟩ := h.dv
  have := rread_any (k : Int) h.pd d
  rw [h.rd k h1 h2] at this; exact this
 have h4 := h.ho.n4
 clear h
 go_enter Tryz.func88, Tryz.ntmps88
 go_wp2_with fail
 go_loopw [5] (fun i wr => i = .int .i64 0 /\ wr = w) (fun _ _ => 0)
 case atStart => exact ⟨rfl, rfl⟩
 case round =>
  obtain ⟨rfl, rfl⟩ := hrel
  go_wp2_with fail
  refine CR.out.mono ?_
  rintro e w1 ⟨rfl, rfl⟩
  go_wp2
  go_ret
  exact ⟨rfl, rfl⟩
set_option maxHeartbeats 1000000 in
theorem rbits7_any (h : Rq w s a r n J D H) : Calls Tryz.prog 60 #[.pointer (some ⟨s, 0, none⟩)] w fun e w' => e = .returned (.string (txt (mapT n H))) /\ w = w' := by
 have h4 := h.ho.n4; have h0 := h.ho.n0
 have CB := Lib.hid (rblocks7_any h)
 have CM : Hid (Calls Tryz.prog 78 #[.int .i64 (n : Int)] w fun e w' => e = .returned (.int .i64 ((nbM n : Nat) : Int)) /\ w = w') := rbitb_any n h4 w
 have hnb : nbM n = (n + 2047) / 2048 := rfl
 have CD : Hid (∀ k : Nat, k < nbM n -> Calls Tryz.prog 88 #[.pointer (some ⟨s, 0, none⟩), .int .i64 (63 + (k : Int))] w fun e w' => e = .returned (.string (H (63 + (k : Int)))) /\ w = w') := fun k hk => by
  have := rdata7_any h (63 + k) (by omega) (by omega)
  rw [show ((63 + k : Nat) : Int) = 63 + (k : Int) by omega] at this; exact this
 have HM0 := Lib.hid (mapK_zero H)
 have HMS : Hid (∀ k : Nat, txt (mapK H k) ++ H (63 + (k : Int)) = txt (mapK H (k + 1))) := fun k => by
  have := mapK_succ H k
  rw [show ((63 + k : Nat) : Int) = 63 + (k : Int) by omega] at this; exact this
 have HML : Hid (∀ k, (txt (mapK H k)).size = 256 * k) := mapK_len H h.ho.size
 have HSz : Hid (∀ i, (H i).size = 256) := h.ho.size
 have hme : txt (mapT n H) = txt (mapK H (nbM n)) := rfl
 have hm2 : nbM n <= 2 := by omega
 rw [hme]
 clear h hme
 obtain ⟨m, hm⟩ : ∃ m, nbM n = m := ⟨_, rfl⟩
 rw [hm] at CM CD hm2 ⊢
 clear hm hnb
 go_enter Tryz.func60, Tryz.ntmps60
 go_wp2_with fail
 go_loopw [3, 4] (fun bv i wr => ∃ k : Nat, k <= m /\ bv = .string (txt (mapK H k)) /\ i = .int .i64 (k : Int) /\ wr = w) (fun _ i _ => m - (intOf i).toNat)
 case atStart => exact ⟨0, Nat.zero_le _, by rw [HM0.out], rfl, rfl⟩
 case round =>
  obtain ⟨k, hk, rfl, rfl, rfl⟩ := hrel
  by_cases hlt : k < m
  ·have HS := Lib.hid (HMS.out k)
   have hz1 := HML.out k
   have hz2 := HSz.out (63 + (k : Int))
   have HCk := Lib.hid (CD.out k hlt)
   generalize H (63 + (k : Int)) = V at *
   obtain ⟨T, hT⟩ : ∃ T, txt (mapK H k) = T := ⟨_, rfl⟩
   rw [hT] at hz1 HS ⊢
   clear hT
   have hz3 : T.size <= 512 := by omega
   have hz4 : V.size <= 256 := by omega
   clear hz1 hz2
   go_wp2_with fail
   refine CB.out.mono ?_
   rintro e w3 ⟨rfl, rfl⟩
   go_wp2_with fail
   refine CM.out.mono ?_
   rintro e w3 ⟨rfl, rfl⟩
   go_wp2_with fail
   refine HCk.out.mono ?_
   rintro e w3 ⟨rfl, rfl⟩
   go_wp2
   go_roundw
   case rel => exact ⟨k + 1, by omega, by rw [<- HS.out], by go_num, by first | rfl | trivial⟩
   case measure => simp [intOf]; omega
  ·obtain rfl : k = m := by omega
   go_wp2_with fail
   refine CB.out.mono ?_
   rintro e w3 ⟨rfl, rfl⟩
   go_wp2_with fail
   refine CM.out.mono ?_
   rintro e w3 ⟨rfl, rfl⟩
   go_wp2
   go_ret
   exact ⟨rfl, rfl⟩
end
structure Rop (S : Nat -> Prop) (w w' : World) (s a r : Nat) (J : JS) (D : DevS) (S2 : Nat -> Prop) : Prop where
 own : ∀ k, S2 k -> S k \/ w.heap.size <= k
 dv : RStands S2 w' r D
 only : Only S w w'
 la : w.heap.size <= a
 ls : w.heap.size <= s
 na : ¬ S2 a
 ns : ¬ S2 s
 ne : a ≠ s
 jr : Jr 136 w' a r J
 hs : w'.heap[s]? = some (.cells #[.pointer (some ⟨a, 0, none⟩), .bool false, .slice none 0 0] 132 (0, 0))
section
variable {S : Nat -> Prop} {w w' : World} {r n N : Nat} {J : JS} {D : DevS} {F : List (List Wr)} {G : Nat -> ByteArray} {H : Int -> ByteArray}
set_option maxHeartbeats 4000000 in
theorem ropen7_any (hd : RStands S w r D) (sy : Sync N n J D G F) (hnf : D.fused = false) (hp : D.pend.length <= 500000) (gh : ∀ b : Nat, 62 <= b -> b < n -> G b = H b) (ho : HomeOk n H) (hN : N + 1 <= 10000) :
  Calls Tryz.prog 31 #[.pointer (some ⟨r, 0, none⟩), .int .i64 64] w fun e w' => ∃ s a S2, e = .returned (.tuple #[.pointer (some ⟨s, 0, none⟩), .int .i64 0]) /\ Hid (Rop S w w' s a r J.next' D.opn.2.1 S2) := by
 obtain ⟨o1, o2, o3, o4, o5⟩ := open_live sy (by omega) hnf
 have CJ : Hid (Calls Tryz.prog 77 #[.pointer (some ⟨r, 0, none⟩)] w fun e w' => ∃ a S', e = .returned (.tuple #[.pointer (some ⟨a, 0, none⟩), .int .i64 0]) /\ Hid ((∀ k, S' k -> S k \/ w.heap.size <= k) /\ RStands S' w' r D.opn.2.1 /\ Only S w w' /\ w.heap.size <= a /\ ¬ S' a /\ Jr 136 w' a r J.next')) := by
  refine (vopen_any (w := w) hd (by omega)).mono fun e w' hO => ?_
  unfold VOpened at hO
  rw [o1, o2] at hO
  obtain ⟨S', h1, h2, h3, a, h4, h5, h6, h7⟩ := hO
  exact ⟨a, S', h4, h1, h2, h3, h5, h6, h7⟩
 have hlg : J.next'.log = 60 := o3.pre.good.lg
 have h4 := ho.n4; have h0 := ho.n0
 have hr := ho.right
 unfold rightB at hr
 obtain ⟨b1, b2⟩ := (TS.right_map n h0 h4 _ (mapT_len n H ho.size)).1 (of_decide_eq_true hr)
 have hlen : (mapT n H).length = 256 * nbM n := mapT_len n H ho.size
 have hnb : nbM n = (n + 2047) / 2048 := rfl
 have hq : firstD n = 63 + nbM n := rfl
 have CSu : Hid (∀ W, Calls Tryz.prog 81 #[.int .i64 (n : Int)] W fun e w' => e = .returned (.string (labelB n)) /\ Hid (Below W.heap.size W w')) := fun W => rsuper_any n h4 W
 have CFr : Hid (∀ W, Calls Tryz.prog 59 #[.string (txt (mapT n H)), .int .i64 (63 + ((nbM n : Nat) : Int))] W fun e w' => e = .returned (.int .i64 0) /\ W = w') := fun W => by
  have := Bm.rfree_any (txt (mapT n H)) (63 + ((nbM n : Nat) : Int)) W (by rw [txt_size]; omega) (by omega)
  rw [txt_data, (TS.fr_zero (mapT n H) _).2 (fun i hi => b1 i (by unfold Bm.fi at hi; omega))] at this
  exact this
 have CGt : Hid (∀ (k : Nat) W, n <= k -> k <= 10000 -> Calls Tryz.prog 65 #[.string (txt (mapT n H)), .int .i64 (k : Int)] W fun e w' => e = .returned (.bool false) /\ W = w') := fun k W h1 h2 => by
  have := Bm.rget_any (txt (mapT n H)) (k : Int) W (by rw [txt_size]; omega) (by omega)
  rw [txt_data, Bm.gb_nat, b2 k h1] at this
  exact this
 have HRq : Hid (∀ W s a S', RStands S' W r D.opn.2.1 -> Jr 136 W a r J.next' -> W.heap[s]? = some (.cells #[.pointer (some ⟨a, 0, none⟩), .bool false, .slice none 0 0] 132 (0, 0)) -> Rq W s a r n J.next' D.opn.2.1 H) := fun W s a S' h1 h2 h3 =>
  ⟨h3, h2, ⟨S', h1⟩, fun k hk1 hk2 => by
   have h3 := DevS.rd_live o3.pre.live k (by rw [o3.pre.len]; exact hk2)
   rw [o3.pre.read k hk1 hk2, gh k hk1 hk2] at h3
   exact h3, o3.pre.len, by rw [o4]; simp, ho⟩
 have hl62 := ho.label
 have C1 : Hid (∀ W s a, Rq W s a r n J.next' D.opn.2.1 H -> Calls Tryz.prog 61 #[.pointer (some ⟨s, 0, none⟩)] W fun e w' => e = .returned (.int .i64 (n : Int)) /\ W = w') := fun W s a h => rblocks7_any h
 have C2 : Hid (∀ W s a, Rq W s a r n J.next' D.opn.2.1 H -> Calls Tryz.prog 33 #[.pointer (some ⟨s, 0, none⟩)] W fun e w' => e = .returned (.int .i64 (63 + ((nbM n : Nat) : Int))) /\ W = w') := fun W s a h => rfirst7_any h
 have C3 : Hid (∀ W s a, Rq W s a r n J.next' D.opn.2.1 H -> Calls Tryz.prog 88 #[.pointer (some ⟨s, 0, none⟩), .int .i64 62] W fun e w' => e = .returned (.string (labelB n)) /\ W = w') := fun W s a h => by
  have := rdata7_any h 62 (Nat.le_refl _) (by omega)
  rw [show ((62 : Nat) : Int) = 62 from rfl, hl62] at this; exact this
 have C4 : Hid (∀ W s a, Rq W s a r n J.next' D.opn.2.1 H -> Calls Tryz.prog 60 #[.pointer (some ⟨s, 0, none⟩)] W fun e w' => e = .returned (.string (txt (mapT n H))) /\ W = w') := fun W s a h => rbits7_any h
 have htz : ((txt (mapT n H)).size : Int) = 256 * ((nbM n : Nat) : Int) := by rw [txt_size, hlen]; omega
 have hm2 : nbM n <= 2 := by omega
 have hmn : 63 + nbM n <= n := by omega
 have hm8 : n <= 2048 * nbM n := by omega
 clear hd sy hnf hp gh ho o1 o2 o3 o4 o5 hr b1 b2 hlen hl62 hq hnb
 generalize D.opn.2.1 = D2 at *
 generalize J.next' = J2 at *
 generalize txt (mapT n H) = TB at *
 generalize labelB n = LB at *
 obtain ⟨m, hm⟩ : ∃ m, nbM n = m := ⟨_, rfl⟩
 rw [hm] at CFr C2 hm2 hmn hm8 htz
 clear hm
 have hts : TB.size = 256 * m := by omega
 go_enter Tryz.func31, Tryz.ntmps31
 go_wp2_with fail
 refine CJ.out.mono ?_
 rintro e w1 ⟨a, S1, rfl, HJ⟩
 obtain ⟨j1, j2, j3, j4, j5, j6⟩ := HJ.out
 obtain ⟨X, hX⟩ : ∃ X, w1.alloc (.cells #[.pointer (some ⟨a, 0, none⟩), .bool false, .slice none 0 0] 132) = X := ⟨_, rfl⟩
 have hbX : Below w1.heap.size w1 X := by rw [<- hX]; exact (Below.refl _ _).alloc (Nat.le_refl _) _
 have hXh : X.heap[w1.heap.size]? = some (.cells #[.pointer (some ⟨a, 0, none⟩), .bool false, .slice none 0 0] 132 (0, 0)) := by rw [<- hX]; exact heap_alloc_new ..
 have HQ := Lib.hid (HRq.out X w1.heap.size a S1 (j2.below hbX) (j6.below hbX) hXh)
 have k0 := HQ.out.c0
 have k3 := HQ.out.jr.c3
 rw [hlg] at k3
 have HFin : Hid (∀ w', Below X.heap.size X w' -> Rop S w w' w1.heap.size a r J2 D2 S1) := fun w' hb => by
  have hz := hbX.size
  have hb2 : Below w1.heap.size w1 w' := hbX.trans (hb.mono hz)
  refine ⟨j1, j2.below hb2, j3.trans (Only.of_below S hb2 (Nat.le_refl _)) (fun _ _ h => h), j4, j3.size, j5, fun h => by have := j2.lt _ h; omega, by have := j6.lt; omega, j6.below hb2, ?_⟩
  rw [hb.block _ (Array.getElem?_eq_some_iff.1 hXh).1]; exact hXh
 clear HJ j1 j2 j3 j4 j5 j6 CJ HRq hbX hXh
 go_wp2_with fail
 try rw [hX]
 clear hX
 refine (C1.out _ _ _ HQ.out).mono ?_
 rintro e w2 ⟨rfl, rfl⟩
 go_wp2_with fail
 refine (C2.out _ _ _ HQ.out).mono ?_
 rintro e w2 ⟨rfl, rfl⟩
 go_wp2_with fail
 refine (C3.out _ _ _ HQ.out).mono ?_
 rintro e w2 ⟨rfl, rfl⟩
 go_wp2_with fail
 refine (CSu.out _).mono ?_
 rintro e w2 ⟨rfl, HB2⟩
 have HQ2 := Lib.hid (HQ.out.below HB2.out)
 go_wp2_with fail
 refine (C4.out _ _ _ HQ2.out).mono ?_
 rintro e w3 ⟨rfl, rfl⟩
 go_wp2_with fail
 refine (C2.out _ _ _ HQ2.out).mono ?_
 rintro e w3 ⟨rfl, rfl⟩
 go_wp2_with fail
 refine (CFr.out _).mono ?_
 rintro e w3 ⟨rfl, rfl⟩
 go_wp2_with fail
 go_loopw [11] (fun i wr => ∃ k : Nat, n <= k /\ k <= 2048 * m /\ i = .int .i64 (k : Int) /\ wr = w2) (fun i _ => 2048 * m - (intOf i).toNat)
 case atStart => exact ⟨n, Nat.le_refl _, hm8, rfl, rfl⟩
 case round =>
  obtain ⟨k, hk1, hk, rfl, rfl⟩ := hrel
  by_cases hlt : k < 2048 * m
  ·have CG := Lib.hid (CGt.out k wr hk1 (by omega))
   go_wp2_with fail
   refine CG.out.mono ?_
   rintro e w3 ⟨rfl, rfl⟩
   go_wp2
   go_roundw
   case rel => exact ⟨k + 1, by omega, by omega, by go_num, by first | rfl | trivial⟩
   case measure => simp [intOf]; omega
  ·obtain rfl : k = 2048 * m := by omega
   go_wp2_with fail
   go_ret2
   exact ⟨_, _, _, rfl, Lib.hid (HFin.out _ HB2.out)⟩
end
end Go.Proofs.YthambopnmhkeeaaGreat
