/- What Format of a new device leaves. -/
import Derived.Test.YthambopnmhkeeaaGreatZSOpen
import Derived.Test.YthambopnmhkeeaaGreatZSIns
import Derived.Test.YthambopnmhkeeaaGreatZJSlot
import Derived.Test.YthambopnmhkeeaaGreatZCDrop
import Derived.Test.YthambopnmhkeeaaGreatZLHelp

set_option maxRecDepth 100000
namespace Go.Proofs.YthambopnmhkeeaaGreat
open Go.RowKit
open Fr (SlW OwnW)
theorem H0_ok (n : Nat) (h1 : 128 <= n) (h2 : n <= 4096) : HomeOk n (H0 n) := by
 refine ⟨h1, h2, H0_size n, by unfold H0; rw [if_pos rfl], ?_⟩
 unfold rightB
 rw [H0_map]
 refine decide_eq_true ((TS.right_map n h1 h2 _ (TS.empty_len n)).2 ⟨fun i hi => ?_, fun i hi => ?_⟩)
 ·rw [TS.empty_bt n (by unfold firstD nbM; omega)]; simp [hi]
 ·rw [TS.empty_bt n (by unfold firstD nbM; omega)]
  have : ¬ i < firstD n := by unfold firstD nbM; omega
  simp [this]
set_option maxHeartbeats 4000000 in
theorem sformat_pack (n : Nat) (h1 : 128 <= n) (h2 : n <= 4096) : ∃ DC J2 F G, Sync 4 n J2 DC G F /\ (∀ b : Nat, 62 <= b -> b < n -> G b = H0 n b) /\ DC.fused = false /\ DC.pend.length <= 200 /\
  ∀ (S : Nat -> Prop) w p, Stands S w p (DevS.made n) -> Calls Tryz.prog 26 #[.pointer (some ⟨p, 0, none⟩)] w fun e w' => e = .returned (.int .i64 0) /\ Hid (Leaves S w w' p DC) := by
 obtain ⟨DF, DO, DC, J2, F, G, f1, f2, f3, f4, f5, f6, f7, f8, f9, f10⟩ := formed n h1 h2
 refine ⟨DC, J2, F, G, f7, f8, f9, f10, fun S w p hd => ?_⟩
 have hmp : (DevS.made n).pend = [] := rfl
 have hml : (DevS.made n).disk.length = n := by simp [DevS.made]
 have CB := blocks_any hd
 rw [hml] at CB
 have HB := Lib.hid CB
 have CFm : Hid (Calls Tryz.prog 69 #[.pointer (some ⟨p, 0, none⟩), .int .i64 60] w fun e w' => e = .returned (.int .i64 0) /\ Leaves S w w' p DF) := by
  have := format_any (w := w) 60 hd (by rw [hmp]; simp)
  rw [f1] at this; exact this
 have CJ : Hid (∀ (S' : Nat -> Prop) W, Stands S' W p DF -> Calls Tryz.prog 70 #[.pointer (some ⟨p, 0, none⟩)] W fun e w' => ∃ a S2, e = .returned (.tuple #[.pointer (some ⟨a, 0, none⟩), .int .i64 0]) /\ Hid ((∀ k, S2 k -> S' k \/ W.heap.size <= k) /\ Stands S2 w' p DO /\ Only S' W w' /\ W.heap.size <= a /\ ¬ S2 a /\ Jr 104 w' a p Jb)) := fun S' W h => by
  refine (open_any (w := W) h (by rw [f2]; simp)).mono fun e w' hO => ?_
  unfold Opened at hO
  rw [f3] at hO
  obtain ⟨S2, g1, g2, g3, a, g4, g5, g6, g7⟩ := hO
  exact ⟨a, S2, g4, g1, g2, g3, g5, g6, g7⟩
 have CE : Hid (∀ W, Calls Tryz.prog 72 #[.int .i64 (n : Int)] W fun e w' => e = .returned (.string (txt (TS.emptyM n))) /\ Hid (Below W.heap.size W w')) := fun W => emptyMap_any n h1 h2 W
 have CM : Hid (∀ W, Calls Tryz.prog 71 #[.string (txt (TS.emptyM n))] W fun e w' => ∃ v, e = .returned v /\ Hid (OwnW W.heap.size w' v (mapL (nbM n) (TS.emptyM n))) /\ Hid (Below W.heap.size W w')) := fun W => mapBlocks_any _ _ (TS.empty_len n) (by unfold nbM; omega) W
 have CL : Hid (∀ W, Calls Tryz.prog 75 #[.int .i64 (n : Int)] W fun e w' => e = .returned (.string (labelB n)) /\ Hid (Below W.heap.size W w')) := fun W => label_any n h2 W
 have CI : Hid (∀ B W v, B <= W.heap.size -> OwnW B W v (mapL (nbM n) (TS.emptyM n)) -> Calls Tryz.prog 74 #[v, .int .i64 0, .slice (some ⟨W.heap.size, 0, none⟩) 1 1] (W.alloc (.cells #[.int .i64 62, .string (labelB n)] 63)) fun e w' => ∃ u, e = .returned u /\ Hid (OwnW B w' u (fmtW n)) /\ Hid (Below B W w')) := fun B W v hB hv => by
  have hba : Below W.heap.size W (W.alloc (.cells #[.int .i64 62, .string (labelB n)] 63)) := (Below.refl _ _).alloc (Nat.le_refl _) _
  refine (insert_any (mapL (nbM n) (TS.emptyM n)) v (62, labelB n) 0 W.heap.size B _ (hv.below hba) (Nat.zero_le _) (by rw [mapL_len]; unfold nbM; omega) (by simp; omega) (heap_alloc_new ..) (fun e => ?_)).mono fun e w' ⟨u, e1, e2, e3⟩ => ⟨u, e1, e2.out, ((Below.refl B W).alloc hB _).trans e3.out⟩
  have := (hv.lt _ e).2
  omega
 have CC : Hid (∀ (S' : Nat -> Prop) B W u a, Stands S' W p DO -> Jr 104 W a p Jb -> ¬ S' a -> B <= W.heap.size -> a < B -> (∀ k, S' k -> k < B) -> OwnW B W u (fmtW n) -> Calls Tryz.prog 73 #[.pointer (some ⟨a, 0, none⟩), u] W fun e w' => e = .returned (.int .i64 0) /\ JLeaves 104 S' W w' a p DC J2) := fun S' B W u a hs hj hn hB hB2 hBs hu => by
  have hlen := fmtW_len n
  have hnb : nbM n = (n + 2047) / 2048 := rfl
  obtain ⟨g, cc, rfl, _, hgB, hgl, _, _⟩ := hu.here (by omega)
  have := commit_any (w := W) (L := fmtW n) hj hs hn f5 (by rw [f4]; simp) (by omega) (fun x hx => by rw [(fmtW_mem h1 hx).2.2.1]; unfold maxLen; omega) hu.sl
   (fun g' o n' c' hv hg => by cases hv; have := hBs _ hg; omega) ⟨fun g' o n' c' hv => by cases hv; exact hgl, fun g' o n' c' hv => by cases hv; omega⟩
  rw [f6] at this; exact this
 have hsl := hd.lt
 clear f1 f2 f3 f4 f5 f6 f7 f8 f9 f10 CB hmp hml hd
 generalize labelB n = LB at *
 generalize txt (TS.emptyM n) = TE at *
 go_enter Tryz.func26, Tryz.ntmps26
 go_wp2_with fail
 refine HB.out.mono ?_
 rintro e w1 ⟨rfl, rfl⟩
 go_wp2_with fail
 refine CFm.out.mono ?_
 rintro e w2 ⟨rfl, hv2⟩
 obtain ⟨S2, hS2, hs2, ho2⟩ := hv2
 have CJ2 := Lib.hid (CJ.out S2 w2 hs2)
 have HS2 := Lib.hid hS2; have HO2 := Lib.hid ho2
 clear hS2 hs2 ho2 CJ CFm HB
 go_wp2_with fail
 refine CJ2.out.mono ?_
 rintro e w3 ⟨a, S3, rfl, HJ⟩
 clear CJ2
 go_wp2_with fail
 refine (CE.out w3).mono ?_
 rintro e w4 ⟨rfl, HB4⟩
 go_wp2_with fail
 refine (CM.out w4).mono ?_
 rintro e w5 ⟨v, rfl, HO5, HB5⟩
 go_wp2_with fail
 refine (CL.out w5).mono ?_
 rintro e w6 ⟨rfl, HB6⟩
 have hz4 := HB4.out.size; have hz5 := HB5.out.size; have hz6 := HB6.out.size
 have CI2 := Lib.hid (CI.out w4.heap.size w6 v (by omega) (HO5.out.below HB6.out))
 clear CE CM CL CI
 go_wp2_with fail
 refine CI2.out.mono ?_
 rintro e w7 ⟨u, rfl, HO7, HB7⟩
 obtain ⟨j1, j2, j3, j4, j5, j6⟩ := HJ.out
 have hz7 := HB7.out.size
 have hb37 : Below w3.heap.size w3 w7 := (HB4.out.trans (HB5.out.mono hz4)).trans ((HB6.out.mono (by omega)).trans (HB7.out.mono hz4))
 have hlt3 := j2.lt
 have hja := j6.lt
 have CC2 := Lib.hid (CC.out S3 w4.heap.size w7 u a (j2.below hb37) (j6.below hb37) j5 (by omega) (by omega) (fun k hk => by have := hlt3 k hk; omega) HO7.out)
 have hz2 := HO2.out.size
 have hz3 := j3.size
 have HFin : Hid (∀ w8, JLeaves 104 S3 w7 w8 a p DC J2 -> Leaves S w w8 p DC) := fun w8 ⟨S8, g1, g2, g3, g4⟩ => by
  refine ⟨S8, fun k hk => ?_, g2, ?_⟩
  ·rcases g1 k hk with h | h
   ·rcases j1 k h with h | h
    ·exact HS2.out k h
    ·exact .inr (by omega)
   ·exact .inr (by have := hb37.size; omega)
  ·refine (HO2.out.trans (j3.trans (Only.of_below S2 hb37 (Nat.le_refl _)) (fun _ _ h => h)) (fun k hk h => ?_)).trans g4 (fun k hk h => ?_)
   ·rcases HS2.out k h with h | h
    ·exact h
    ·omega
   ·rcases h with h | h
    ·rcases j1 k h with h | h
     ·rcases HS2.out k h with h | h
      ·exact h
      ·omega
     ·omega
    ·omega
 clear j1 j2 j3 j4 j5 j6 CC CI2 HJ HO5 HB4 HB5 HB6 HB7 hb37
 go_wp2_with fail
 refine CC2.out.mono ?_
 rintro e w8 ⟨rfl, hv8⟩
 have HL := Lib.hid (HFin.out w8 hv8)
 clear hv8 HFin CC2
 go_wp2
 go_ret
 exact ⟨rfl, HL.out⟩
end Go.Proofs.YthambopnmhkeeaaGreat
/- What formatted answers: a new store. -/
set_option maxRecDepth 100000
namespace Go.Proofs.YthambopnmhkeeaaGreat
open Go.RowKit
theorem form_pack (n : Nat) (h1 : 128 <= n) (h2 : n <= 4096) : ∃ Z DC J2 F G, Sync 4 n J2 DC G F /\ (∀ b : Nat, 62 <= b -> b < n -> G b = H0 n b) /\ DC.fused = false /\ DC.pend.length <= 200 /\
  (∀ w, Calls Tryz.prog 24 #[.int .i64 (n : Int)] w fun e w' => ∃ p, e = .returned (.tuple #[.pointer (some ⟨p, 0, none⟩), .int .i64 0]) /\ Fresh w w' p Z) /\
  ∀ (S : Nat -> Prop) w p, Stands S w p Z -> Calls Tryz.prog 26 #[.pointer (some ⟨p, 0, none⟩)] w fun e w' => e = .returned (.int .i64 0) /\ Hid (Leaves S w w' p DC) := by
 obtain ⟨DC, J2, F, G, a1, a2, a3, a4, a5⟩ := sformat_pack n h1 h2
 exact ⟨DevS.made n, DC, J2, F, G, a1, a2, a3, a4, fun w => new_yes n w (by omega) h2, a5⟩
set_option maxHeartbeats 2000000 in
theorem formatted_any (n : Nat) (h1 : 128 <= n) (h2 : n <= 4096) (m : Nat) (hm1 : 64 <= m) (hm2 : m <= 1024) (w : World) :
  Calls Tryz.prog 47 #[.int .i64 (n : Int), .int .i64 (m : Int)] w fun e w' => ∃ p s S, e = .returned (.tuple #[.pointer (some ⟨p, 0, none⟩), .pointer (some ⟨s, 0, none⟩), .bool true]) /\ Hid ((∀ k, S k -> w.heap.size <= k) /\ St S w' s p (TS.opened n (H0 n)) 5 0 /\ Below w.heap.size w w' /\ w.heap.size <= s) := by
 obtain ⟨Z, DC, J2, F, G, a1, a2, a3, a4, cn, cf⟩ := form_pack n h1 h2
 have CN := Lib.hid (cn w); have CF := Lib.hid cf
 have CO : Hid (∀ (S : Nat -> Prop) W p, Stands S W p DC -> Calls Tryz.prog 30 #[.pointer (some ⟨p, 0, none⟩), .int .i64 (m : Int)] W fun e w' => ∃ s S', e = .returned (.tuple #[.pointer (some ⟨s, 0, none⟩), .int .i64 0]) /\ Hid ((∀ k, S' k -> S k \/ W.heap.size <= k) /\ St S' w' s p (TS.opened n (H0 n)) (4 + 1) 0 /\ Only S W w' /\ W.heap.size <= s)) := fun S W p hd =>
  sopen_any hd a1 a3 (by omega) a2 (H0_ok n h1 h2) (by omega) m hm1 hm2
 clear cn cf a1 a2 a3 a4 h1 h2
 generalize TS.opened n (H0 n) = P at *
 go_enter Tryz.func47, Tryz.ntmps47
 go_wp2_with fail
 refine CN.out.mono ?_
 rintro e w1 ⟨p, rfl, hf1⟩
 obtain ⟨S1, hS1, hs1, hb1⟩ := hf1
 have CF1 := Lib.hid (CF.out S1 w1 p hs1)
 have HS1 := Lib.hid hS1; have HB1 := Lib.hid hb1
 clear hS1 hb1 hs1 CN CF
 go_wp2_with fail
 refine CF1.out.mono ?_
 rintro e w2 ⟨rfl, hv2⟩
 obtain ⟨S2, hS2, hs2, ho2⟩ := hv2.out
 have CO2 := Lib.hid (CO.out S2 w2 p hs2)
 have HS2 : Hid (∀ k, S2 k -> w.heap.size <= k) := fun k hk => by rcases hS2 k hk with h | h; exact HS1.out k h; have := HB1.out.size; omega
 have HB2 : Hid (Below w.heap.size w w2) := HB1.out.trans (ho2.below HB1.out.size (fun k _ hk => HS1.out k hk))
 clear hv2 hS2 hs2 ho2 CO CF1
 go_wp2_with fail
 refine CO2.out.mono ?_
 rintro e w3 ⟨s, S3, rfl, HS3⟩
 have HF : Hid ((∀ k, S3 k -> w.heap.size <= k) /\ St S3 w3 s p P 5 0 /\ Below w.heap.size w w3 /\ w.heap.size <= s) := by
  obtain ⟨g1, g2, g3, g4⟩ := HS3.out
  have hz := HB2.out.size
  exact ⟨fun k hk => by rcases g1 k hk with h | h; exact HS2.out k h; omega, g2, HB2.out.trans (g3.below hz (fun k _ hk => HS2.out k hk)), by omega⟩
 clear HS3 CO2 HS1 HB1 HS2 HB2
 go_wp2
 go_ret3
 exact ⟨_, _, _, rfl, HF.out⟩
end Go.Proofs.YthambopnmhkeeaaGreat
/- The chapter's examples of a store, in plain functions. -/
namespace Go.Proofs.YthambopnmhkeeaaGreat
open Go.RowKit
open Bm
open TS
def mapU : List UInt8 := stL (emptyM 128) 64 true 2
theorem m_fit : fit (emptyM 128) 128 2 = some 64 := by decide +kernel
theorem m_none : fit (stL mapU 64 false 1) 128 64 = none := by decide +kernel
theorem m_fr0 : fr (emptyM 128) 128 = 64 := by decide +kernel
theorem m_fr1 : fr mapU 128 = 62 := by decide +kernel
theorem m_64 : bt mapU 64 = true := by decide +kernel
theorem m_66 : bt mapU 66 = false := by decide +kernel
theorem m_rs : rs (stL (turnB mapU) 0 true (firstD 128)) 128 = [(64, 2)] := by decide +kernel
theorem m_first : firstD 128 = 64 := by decide +kernel
structure Shows (P0 P1 P2 P3 P4 P5 P6 P7 : TS) (s : ByteArray) : Prop where
 n0 : P0.n = 128
 fr0 : fr P0.bits P0.n = 64
 al0 : P0.alloc 2 = ((0, 15), P0)
 be0 : P0.begin_ = (0, P1)
 al1 : P1.alloc 2 = ((64, 0), P2)
 wr2 : P2.write 64 s = (0, P3)
 wr3 : P3.write 66 s = (10, P3)
 co3 : P3.commit = (0, P4)
 us4 : rs (stL (turnB P4.bits) 0 true (firstD P4.n)) P4.n = [(64, 2)]
 be4 : P4.begin_ = (0, P5)
 re5 : P5.release 64 1 = (0, P6)
 al6 : P6.alloc 64 = ((0, 9), P6)
 un6 : P6.undo = P7
 rd7 : P7.read 64 = (s, 0)
 fr7 : fr P7.bits P7.n = 62
theorem shows (s : ByteArray) (hs : s.size = 256) : ∃ P1 P2 P3 P4 P5 P6 P7, Shows (TS.opened 128 (H0 128)) P1 P2 P3 P4 P5 P6 P7 s := by
 have ok0 : (TS.opened 128 (H0 128)).Ok := by
  have h := H0_ok 128 (by omega) (by omega)
  refine TS.opened_ok 128 _ (by omega) (by omega) (H0_size 128) ?_
  rw [H0_map]
  refine (TS.right_map 128 (by omega) (by omega) _ (TS.empty_len 128)).2 ?_
  have := (TS.right_map 128 (by omega) (by omega) _ (TS.empty_len 128)).1 (by decide +kernel)
  exact this
 have hb0 : (TS.opened 128 (H0 128)).bits = emptyM 128 := H0_map 128
 have hc0 : (TS.opened 128 (H0 128)).cnt = 0 := List.countP_eq_zero.2 fun i _ => by show ¬ (false = true); simp
 have hn0 : (TS.opened 128 (H0 128)).n = 128 := rfl
 have ho0 : (TS.opened 128 (H0 128)).op = false := rfl
 generalize TS.opened 128 (H0 128) = P0 at *
 obtain ⟨x1, _, _, _, x5, _⟩ := TS.states ho0 2 0 s
 have ok1 : ({ P0 with op := true } : TS).Ok := by have := ok0.begin_; rw [x5] at this; exact this
 have hb1 : ({ P0 with op := true } : TS).bits = emptyM 128 := hb0
 have hn1 : ({ P0 with op := true } : TS).n = 128 := hn0
 have hc1 : ({ P0 with op := true } : TS).cnt = 0 := hc0
 generalize hP1 : ({ P0 with op := true } : TS) = P1 at *
 have ho1 : P1.op = true := by rw [<- hP1]
 rcases TS.alloc_fresh ok1 ho1 hc1 2 (by omega) with ⟨hf, _⟩ | ⟨a, hf, e, _, _, hb2, hn2, ho2, ok2, hc2⟩
 ·rw [hb1, hn1, m_fit] at hf; cases hf
 rw [hb1, hn1, m_fit] at hf
 obtain rfl : 64 = a := Option.some.inj hf
 rw [hb1] at hb2
 rw [hn1] at hn2 hc2
 generalize (P1.turn 64 2 true).2 = P2 at *
 have hc2' : P2.cnt <= 1 := hc2
 obtain ⟨w1, w2, _, w4, w5⟩ := TS.write_used ho2 (by omega) 64 (by rw [hn2, m_first]; omega) (by rw [hn2]; omega) (by rw [hb2]; exact m_64) s hs
 have ok3 : (P2.over [(((64 : Nat) : Int), s)]).Ok := by have := ok2.write (64 : Nat) s; rw [w1] at this; exact this
 have ho3 : (P2.over [(((64 : Nat) : Int), s)]).op = true := by rw [(P2.over_n _).2.2.2.2]; exact ho2
 generalize P2.over [(((64 : Nat) : Int), s)] = P3 at *
 have hb3 : P3.bits = mapU := w4.trans hb2
 have hn3 : P3.n = 128 := w5.trans hn2
 have wr3 : P3.write 66 s = (10, P3) := by
  unfold TS.write TS.data
  rw [if_neg (by rw [ho3]; simp), if_neg (by rw [hn3, m_first]; simp), if_pos (by rw [show (66 : Int) = ((66 : Nat) : Int) from rfl, gb_nat, hb3, m_66])]
 obtain ⟨P4, hP4⟩ : ∃ P4, P3.commit.2 = P4 := ⟨_, rfl⟩
 have co3 : P3.commit = (0, P4) := by
  rw [<- hP4]
  unfold TS.commit
  rw [if_neg (by rw [ho3]; simp)]
 have ok4 : P4.Ok := by rw [<- hP4]; exact ok3.commit
 have h4 : P4 = ({ P3 with H := P3.t, keep := P3.bits } : TS).undo := by
  rw [<- hP4]; unfold TS.commit; rw [if_neg (by rw [ho3]; simp)]
 have hb4 : P4.bits = mapU := by rw [h4]; exact hb3
 have hk4 : P4.keep = mapU := by rw [h4]; exact hb3
 have hn4 : P4.n = 128 := by rw [h4]; exact hn3
 have ho4 : P4.op = false := by rw [h4]; rfl
 have hH4 : P4.H 64 = s := by rw [h4]; exact w2
 have hc4 : P4.cnt = 0 := by rw [h4]; exact List.countP_eq_zero.2 fun i _ => by show ¬ (false = true); simp
 clear h4
 obtain ⟨_, _, _, _, y5, _⟩ := TS.states ho4 2 0 s
 have ok5 : ({ P4 with op := true } : TS).Ok := by have := ok4.begin_; rw [y5] at this; exact this
 have hb5 : ({ P4 with op := true } : TS).bits = mapU := hb4
 have hk5 : ({ P4 with op := true } : TS).keep = mapU := hk4
 have hn5 : ({ P4 with op := true } : TS).n = 128 := hn4
 have hc5 : ({ P4 with op := true } : TS).cnt = 0 := hc4
 have hH5 : ({ P4 with op := true } : TS).H 64 = s := hH4
 have ho5 : ({ P4 with op := true } : TS).op = true := rfl
 generalize ({ P4 with op := true } : TS) = P5 at *
 obtain ⟨t1, t2, t3, t4, t5⟩ := TS.turn_ok (P := P5) (by rw [hn5, hc5]; decide) 64 1 false
 have re5 : P5.release 64 1 = (0, (P5.turn 64 1 false).2) := by
  unfold TS.release TS.data
  rw [if_neg (by rw [ho5]; simp), if_neg (by rw [hn5, m_first]; simp), if_neg]
  ·show P5.turn 64 1 false = _
   rw [<- t1]
  ·show ¬ ((List.range 1).all _ = false)
   rw [hb5]
   have : gb mapU ((64 : Int) + ((0 : Nat) : Int)) = true := by rw [show (64 : Int) + ((0 : Nat) : Int) = ((64 : Nat) : Int) from rfl, gb_nat]; exact m_64
   simp [List.range_succ]
   simpa using this
 have ho6 := TS.turn_op (P := P5) 64 1 false
 rw [ho5] at ho6
 generalize (P5.turn 64 1 false).2 = P6 at *
 have al6 : P6.alloc 64 = ((0, 9), P6) := by
  unfold TS.alloc
  have hfn : fit P6.bits P6.n (64 : Int).toNat = none := by rw [t2, t5, hb5, hn5]; exact m_none
  rw [if_neg (by rw [ho6]; simp), if_neg (by omega), hfn]
 refine ⟨P1, P2, P3, P4, P5, P6, P6.undo, ⟨hn0, by rw [hb0, hn0, m_fr0], x1, x5, e, w1, wr3, co3, by rw [hb4, hn4]; exact m_rs, y5, re5, al6, rfl, ?_, ?_⟩⟩
 ·have hn6 : P6.undo.n = 128 := t5.trans hn5
  unfold TS.read TS.data
  rw [hn6, m_first, if_neg (by simp)]
  show (P6.H 64, 0) = _
  rw [t4, hH5]
 ·show fr P6.keep P6.n = 62
  rw [t3, t5, hk5, hn5]; exact m_fr1
end Go.Proofs.YthambopnmhkeeaaGreat
