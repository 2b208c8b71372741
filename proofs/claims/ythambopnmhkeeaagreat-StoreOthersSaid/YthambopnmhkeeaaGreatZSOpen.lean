/- What findMap and Open answer and leave, where a store lies on the device and the power is there. -/
import Derived.Test.YthambopnmhkeeaaGreatZCDrop
import Derived.Test.YthambopnmhkeeaaGreatZCGet
import Derived.Test.YthambopnmhkeeaaGreatZJRedo
import Derived.Test.YthambopnmhkeeaaGreatZMMake

set_option maxRecDepth 100000
namespace Go.Proofs.YthambopnmhkeeaaGreat
open Go.RowKit
open Fr (SlW)
def mapK (H : Int -> ByteArray) (m : Nat) : List UInt8 := (List.range m).flatMap fun k => (H ((63 + k : Nat) : Int)).data.toList
theorem mapK_zero (H : Int -> ByteArray) : txt (mapK H 0) = ⟨#[]⟩ := rfl
theorem mapK_succ (H : Int -> ByteArray) (m : Nat) : txt (mapK H m) ++ H ((63 + m : Nat) : Int) = txt (mapK H (m + 1)) := by
 have h1 : H ((63 + m : Nat) : Int) = Fr.bs (H ((63 + m : Nat) : Int)).data.toList := (Fr.bs_data _).symm
 have h2 : mapK H (m + 1) = mapK H m ++ (H ((63 + m : Nat) : Int)).data.toList := by
  unfold mapK
  rw [List.range_succ, List.flatMap_append]
  simp
 rw [h2]
 conv => lhs; rw [h1]
 exact Fr.bs_append _ _
theorem mapK_len (H : Int -> ByteArray) (hs : ∀ i, (H i).size = 256) (m : Nat) : (txt (mapK H m)).size = 256 * m := by
 rw [txt_size]
 unfold mapK
 induction m with
 | zero => rfl
 | succ m ih =>
  rw [List.range_succ, List.flatMap_append, List.length_append, ih]
  have := hs ((63 + m : Nat) : Int)
  simp only [List.flatMap_cons, List.flatMap_nil, List.append_nil, Array.length_toList]
  show 256 * m + (H _).size = _
  omega
structure HomeOk (n : Nat) (H : Int -> ByteArray) : Prop where
 n0 : 128 <= n
 n4 : n <= 4096
 size : ∀ i, (H i).size = 256
 label : H 62 = labelB n
 right : rightB n (mapT n H) = true
section
variable {S SD : Nat -> Prop} {w w' : World} {h a p n N : Nat} {H : Int -> ByteArray} {J : JS} {D : DevS} {F : List (List Wr)} {G : Nat -> ByteArray}
set_option maxHeartbeats 2000000 in
theorem findMap_any (hj : Jr 104 w a p J) (hd : Stands SD w p D) (sy : Sync N n J D G F) (hp : D.pend.length <= 500000) (gh : ∀ b : Nat, 62 <= b -> b < n -> G b = H b) (ho : HomeOk n H) :
  Calls Tryz.prog 87 #[.pointer (some ⟨a, 0, none⟩)] w fun e w' => e = .returned (.tuple #[.string (txt (mapT n H)), .bool true]) /\ Hid (Below w.heap.size w w') := by
 have h4 := ho.n4; have h0 := ho.n0
 have hnb : nbM n = (n + 2047) / 2048 := rfl
 have cj := hj.c0
 have hjl := hj.lt
 have hlg := sy.pre.good.lg
 have hhome : J.home = 62 := by unfold JS.home; omega
 have CB : Hid (∀ W, Below w.heap.size w W -> Calls Tryz.prog 58 #[.pointer (some ⟨p, 0, none⟩)] W fun e w' => e = .returned (.int .i64 (n : Int)) /\ W = w') := fun W hW => by
  have := blocks_any (hd.below hW)
  rw [sy.pre.len] at this; exact this
 have CH : Hid (∀ W, Below w.heap.size w W -> Calls Tryz.prog 148 #[.pointer (some ⟨a, 0, none⟩)] W fun e w' => e = .returned (.int .i64 62) /\ W = w') := fun W hW => by
  have := home_any (hj.below hW) (by omega)
  rw [hhome] at this; exact this
 have CR : Hid (∀ (k : Nat) W, 62 <= k -> k < n -> Below w.heap.size w W -> Calls Tryz.prog 147 #[.pointer (some ⟨p, 0, none⟩), .int .i64 (k : Int)] W fun e w' => e = .returned (.tuple #[.string (H (k : Int)), .int .i64 0]) /\ Below W.heap.size W w') := fun k W hk1 hk2 hW => by
  have := read_any (k : Int) (by omega) (hd.below hW)
  have h3 := DevS.rd_live sy.pre.live k (by rw [sy.pre.len]; exact hk2)
  rw [sy.pre.read k hk1 hk2, gh k hk1 hk2] at h3
  rw [h3] at this; exact this
 have CL : Hid (∀ W, Calls Tryz.prog 75 #[.int .i64 (n : Int)] W fun e w' => e = .returned (.string (labelB n)) /\ Hid (Below W.heap.size W w')) := fun W => label_any n h4 W
 have CF : Hid (∀ W, Calls Tryz.prog 89 #[.int .i64 (n : Int)] W fun e w' => e = .returned (.int .i64 (63 + (nbM n : Int))) /\ W = w') := fun W => by
  have := firstData_any n h4 W
  have e : ((firstD n : Nat) : Int) = 63 + (nbM n : Int) := by unfold firstD; omega
  rw [e] at this; exact this
 have CM : Hid (∀ W, Calls Tryz.prog 149 #[.string (txt (mapT n H)), .int .i64 (n : Int)] W fun e w' => e = .returned (.bool true) /\ Hid (Below W.heap.size W w')) := fun W => by
  have := rightMap_any n h0 h4 (mapT n H) (mapT_len n H ho.size) W
  rw [ho.right] at this; exact this
 have HM0 := Lib.hid (mapK_zero H)
 have HMS : Hid (∀ k, txt (mapK H k) ++ H ((63 + k : Nat) : Int) = txt (mapK H (k + 1))) := mapK_succ H
 have HML : Hid (∀ k, (txt (mapK H k)).size = 256 * k) := mapK_len H ho.size
 have HSz : Hid (∀ i, (H i).size = 256) := ho.size
 have hme : txt (mapT n H) = txt (mapK H (nbM n)) := rfl
 have hlab := ho.label
 have CR0 : Hid (∀ W, Below w.heap.size w W -> Calls Tryz.prog 147 #[.pointer (some ⟨p, 0, none⟩), .int .i64 62] W fun e w' => e = .returned (.tuple #[.string (labelB n), .int .i64 0]) /\ Below W.heap.size W w') := fun W hW => by
  have := CR.out 62 W (Nat.le_refl _) (by omega) hW
  rw [show ((62 : Nat) : Int) = 62 from rfl, hlab] at this; exact this
 have hm2 : nbM n <= 2 := by omega
 have hmn : 63 + nbM n <= n := by omega
 rw [hme] at CM ⊢
 clear hj hd sy hp gh ho hlg hhome hme hlab hnb
 generalize labelB n = LB at *
 obtain ⟨m, hm⟩ : ∃ m, nbM n = m := ⟨_, rfl⟩
 rw [hm] at CF CM hm2 hmn ⊢
 clear hm
 have hne : (LB.toList == LB.toList) = true := by simp
 go_enter Tryz.func87, Tryz.ntmps87
 go_wp2_with fail
 refine (CB.out _ (Below.refl _ _)).mono ?_
 rintro e w1 ⟨rfl, rfl⟩
 go_wp2_with fail
 refine (CR0.out _ (Below.refl _ _)).mono ?_
 rintro e w1 ⟨rfl, hb1⟩
 have HB1 := Lib.hid hb1
 clear hb1
 go_wp2_with fail
 refine (CH.out _ HB1.out).mono ?_
 rintro e w2 ⟨rfl, rfl⟩
 go_wp2_with fail
 refine (CL.out _).mono ?_
 rintro e w2 ⟨rfl, HB2'⟩
 have HB2 := Lib.hid (HB1.out.trans (HB2'.out.mono HB1.out.size))
 clear HB2' HB1
 go_wp2_with fail
 go_loopw [7, 8] (fun bv i wr => ∃ k : Nat, k <= m /\ bv = .string (txt (mapK H k)) /\ i = .int .i64 (63 + (k : Int)) /\ Hid (Below w.heap.size w wr)) (fun _ i _ => 63 + m - (intOf i).toNat)
 case atStart => exact ⟨0, Nat.zero_le _, by rw [HM0.out], rfl, HB2.out⟩
 case round =>
  clear HB2
  obtain ⟨k, hk, rfl, rfl, HB⟩ := hrel
  have c0 : wr.cell? ⟨a, 0, none⟩ = some (.pointer (some ⟨p, 0, none⟩)) := (HB.out.cell (p := ⟨a, 0, none⟩) hjl).trans cj
  clear cj
  by_cases hlt : k < m
  ·have ek : ((63 + k : Nat) : Int) = 63 + (k : Int) := by omega
   have CRk := CR.out (63 + k) wr (by omega) (by omega) HB.out
   rw [ek] at CRk
   have HCk := Lib.hid CRk
   have hS := HMS.out k
   rw [ek] at hS
   have HS := Lib.hid hS
   have hz1 := HML.out k
   have hz2 := HSz.out (63 + (k : Int))
   clear ek CRk hS
   generalize H (63 + (k : Int)) = V at *
   obtain ⟨T, hT⟩ : ∃ T, txt (mapK H k) = T := ⟨_, rfl⟩
   rw [hT] at hz1 HS ⊢
   clear hT
   have hz3 : T.size <= 512 := by omega
   have hz4 : V.size <= 256 := by omega
   clear hz1 hz2
   go_wp2_with fail
   refine (CF.out _).mono ?_
   rintro e w3 ⟨rfl, rfl⟩
   go_wp2_with fail
   refine HCk.out.mono ?_
   rintro e w3 ⟨rfl, hb3⟩
   have HB3 := Lib.hid (HB.out.trans (hb3.mono HB.out.size))
   clear hb3 c0
   go_wp2
   go_roundw
   case rel => exact ⟨k + 1, by omega, by rw [<- HS.out], by go_num, HB3.out⟩
   case measure => simp [intOf]; omega
  ·obtain rfl : k = m := by omega
   go_wp2_with fail
   refine (CF.out _).mono ?_
   rintro e w3 ⟨rfl, rfl⟩
   go_wp2_with fail
   refine (CM.out _).mono ?_
   rintro e w3 ⟨rfl, HB3'⟩
   have HB3 := Lib.hid (HB.out.trans (HB3'.out.mono HB.out.size))
   clear HB3' c0
   go_wp2
   go_ret2
   exact ⟨rfl, HB3.out⟩
theorem opened_st {SD' SC : Nat -> Prop} {W : World} {h j c s m : Nat} (ho : HomeOk n H) (sy : Sync N n J D G []) (gh : ∀ b : Nat, 62 <= b -> b < n -> G b = H b) (hnf : D.fused = false) (hp : D.pend.length <= 50 * N) (hN : N <= 10000) (hm1 : 64 <= m) (hm2 : m <= 1024)
  (hh : W.heap[h]? = some (.cells #[.pointer (some ⟨j, 0, none⟩), .slice none 0 0, .slice none 0 0] 99 (0, 0))) (hj : Jr 104 W j p J) (hd : Stands SD' W p D) (hc : Ca.Cch SC W c (.iface 93 (.pointer (some ⟨h, 0, none⟩))) (Ca.CS.new m))
  (hs : W.heap[s]? = some (.cells #[.pointer (some ⟨h, 0, none⟩), .pointer (some ⟨c, 0, none⟩), .string (txt (mapT n H)), .string (txt (mapT n H)), .bool false] 96 (0, 0)))
  (n1 : ¬ SD' h) (n2 : ¬ SD' j) (n3 : h ≠ j) (n4 : ¬ SC h) (n5 : ¬ SC j) (n6 : ∀ k, SD' k -> ¬ SC k) (n7 : s ≠ h) (n8 : s ≠ j) (n9 : ¬ SD' s) (n10 : ¬ SC s) :
  St (fun k => k = s \/ k = h \/ k = j \/ SD' k \/ SC k) W s p (TS.opened n H) N 0 := by
 have lh := (Array.getElem?_eq_some_iff.1 hh).1
 have lj := hj.lt
 have ls := (Array.getElem?_eq_some_iff.1 hs).1
 have hr := ho.right
 unfold rightB at hr
 obtain ⟨k1, k2⟩ := Ca.Kc.new m (by omega) hm2 H
 refine ⟨fun k => k = h \/ k = j \/ SD' k, SC, h, c, Ca.CS.new m, ⟨hs, ⟨SD', j, .slice none 0 0, [], J, D, [], G, ⟨hh, hj, hd, ⟨none, 0, rfl, Nat.le_refl _, .inl rfl⟩, fun k hk => .inr (.inr hk), .inl rfl, .inr (.inl rfl), n1, n2, n3, (fun g off q d hv => by cases hv), fun k hk => ?_, sy, gh, (fun x hx => by cases hx), by simp, hp, hnf, hN⟩⟩, hc, .inl rfl, fun k hk => .inr ?_, fun k hk => .inr (.inr (.inr (.inr hk))), fun hk => ?_, n10, fun k hk hk2 => ?_, fun k hk => ?_⟩, k1, ?_, hm1, Nat.le_refl _⟩
 ·rcases hk with rfl | rfl | hk
  ·exact lh
  ·exact lj
  ·exact hd.lt k hk
 ·rcases hk with rfl | rfl | hk
  ·exact .inl rfl
  ·exact .inr (.inl rfl)
  ·exact .inr (.inr (.inl hk))
 ·rcases hk with hk | hk | hk
  ·exact n7 hk
  ·exact n8 hk
  ·exact n9 hk
 ·rcases hk with rfl | rfl | hk
  ·exact n4 hk2
  ·exact n5 hk2
  ·exact n6 k hk hk2
 ·rcases hk with rfl | rfl | rfl | hk | hk
  ·exact ls
  ·exact lh
  ·exact lj
  ·exact hd.lt k hk
  ·exact hc.lt k hk
 ·exact TS.opened_ok n H ho.n0 ho.n4 ho.size (of_decide_eq_true hr)
set_option maxHeartbeats 4000000 in
theorem sopen_any (hd : Stands SD w p D) (sy : Sync N n J D G F) (hnf : D.fused = false) (hp : D.pend.length <= 500000) (gh : ∀ b : Nat, 62 <= b -> b < n -> G b = H b) (ho : HomeOk n H) (hN : N + 1 <= 10000) (m : Nat) (hm1 : 64 <= m) (hm2 : m <= 1024) :
  Calls Tryz.prog 30 #[.pointer (some ⟨p, 0, none⟩), .int .i64 (m : Int)] w fun e w' => ∃ s S', e = .returned (.tuple #[.pointer (some ⟨s, 0, none⟩), .int .i64 0]) /\ Hid ((∀ k, S' k -> SD k \/ w.heap.size <= k) /\ St S' w' s p (TS.opened n H) (N + 1) 0 /\ Only SD w w' /\ w.heap.size <= s) := by
 obtain ⟨o1, o2, o3, o4, o5⟩ := open_live sy (by omega) hnf
 have CJ : Hid (∀ W, Below w.heap.size w W -> Calls Tryz.prog 70 #[.pointer (some ⟨p, 0, none⟩)] W fun e w' => ∃ a S', e = .returned (.tuple #[.pointer (some ⟨a, 0, none⟩), .int .i64 0]) /\ Hid ((∀ k, S' k -> SD k \/ W.heap.size <= k) /\ Stands S' w' p D.opn.2.1 /\ Only SD W w' /\ W.heap.size <= a /\ ¬ S' a /\ Jr 104 w' a p J.next')) := fun W hW => by
  refine (open_any (hd.below hW) (by omega)).mono fun e w' hO => ?_
  unfold Opened at hO
  rw [o1, o2] at hO
  obtain ⟨S', h1, h2, h3, a, h4, h5, h6, h7⟩ := hO
  exact ⟨a, S', h4, h1, h2, h3, h5, h6, h7⟩
 have CF : Hid (∀ (S' : Nat -> Prop) W a, Stands S' W p D.opn.2.1 -> Jr 104 W a p J.next' -> Calls Tryz.prog 87 #[.pointer (some ⟨a, 0, none⟩)] W fun e w' => e = .returned (.tuple #[.string (txt (mapT n H)), .bool true]) /\ Hid (Below W.heap.size W w')) := fun S' W a h1 h2 =>
  findMap_any h2 h1 o3 (by rw [o4]; simp) gh ho
 have CN : Hid (∀ h W, Calls Tryz.prog 86 #[.iface 93 (.pointer (some ⟨h, 0, none⟩)), .int .i64 (m : Int)] W fun e w' => ∃ c, e = .returned (.tuple #[.pointer (some ⟨c, 0, none⟩), .int .i64 0]) /\ ∃ S : Nat -> Prop, Hid ((∀ k, S k -> W.heap.size <= k) /\ Ca.Cch S w' c (.iface 93 (.pointer (some ⟨h, 0, none⟩))) (Ca.CS.new m) /\ Below W.heap.size W w')) := fun h W => by
  refine (Ca.new_yes 93 (.pointer (some ⟨h, 0, none⟩)) m W (by omega) hm2).mono fun e w' ⟨c, e1, S, e2, e3, e4⟩ => ⟨c, e1, S, e2, e3, e4⟩
 have HSt : Hid (∀ (SD' SC : Nat -> Prop) W h j c s, _ -> _ -> _ -> _ -> _ -> _ -> _ -> _ -> _ -> _ -> _ -> _ -> _ -> _ -> _ -> St (fun k => k = s \/ k = h \/ k = j \/ SD' k \/ SC k) W s p (TS.opened n H) (N + 1) 0) := fun SD' SC W h j c s => opened_st (SD' := SD') (SC := SC) (W := W) (h := h) (j := j) (c := c) (s := s) ho o3 gh o5 (by rw [o4]; simp) (by omega) hm1 hm2
 have HLd := Lib.hid hd.lt
 clear hd sy hnf hp gh ho o1 o2 o3 o4 o5
 generalize D.opn.2.1 = D2 at *
 generalize J.next' = J2 at *
 generalize txt (mapT n H) = TB at *
 go_enter Tryz.func30, Tryz.ntmps30
 go_wp2_with fail
 obtain ⟨X, hX⟩ : ∃ X, w.alloc (.cells #[.pointer none, .slice none 0 0, .slice none 0 0] 99) = X := ⟨_, rfl⟩
 have hbX : Below w.heap.size w X := by rw [<- hX]; exact (Below.refl _ _).alloc (Nat.le_refl _) _
 have hXh : X.heap[w.heap.size]? = some (.cells #[.pointer none, .slice none 0 0, .slice none 0 0] 99 (0, 0)) := by rw [<- hX]; exact heap_alloc_new ..
 have hXz : X.heap.size = w.heap.size + 1 := by rw [<- hX]; simp
 rw [hX]
 clear hX
 refine (CN.out _ X).mono ?_
 rintro e w1 ⟨c, rfl, SC, HC⟩
 obtain ⟨c1, c2, c3⟩ := HC.out
 have HB1 : Hid (Below w.heap.size w w1) := hbX.trans (c3.mono hbX.size)
 have hz1 := c3.size
 have h1h : w1.heap[w.heap.size]? = some (.cells #[.pointer none, .slice none 0 0, .slice none 0 0] 99 (0, 0)) := by rw [c3.block _ (by omega)]; exact hXh
 have HC2 := Lib.hid c2; have HC1 := Lib.hid c1
 clear c1 c2 c3 HC CN hbX hXh
 go_wp2_with fail
 refine (CJ.out w1 HB1.out).mono ?_
 rintro e w2 ⟨a, SJ, rfl, HJ⟩
 obtain ⟨j1, j2, j3, j4, j5, j6⟩ := HJ.out
 have hz2 := j3.size
 have hzw : w.heap.size < w1.heap.size := by omega
 have hSD : ∀ k, w.heap.size <= k -> ¬ SD k := fun k hk hd => by have := HLd.out k hd; omega
 have h2h : w2.heap[w.heap.size]? = some (.cells #[.pointer none, .slice none 0 0, .slice none 0 0] 99 (0, 0)) := by rw [j3.block _ hzw (hSD _ (Nat.le_refl _))]; exact h1h
 have e0 : w2.cell? ⟨w.heap.size, 0, none⟩ = some (.pointer none) := by rw [cell_at h2h]; rfl
 have f0 : w2.frozen? ⟨w.heap.size, 0, none⟩ = false := free_at h2h 0
 obtain ⟨W3, hW3⟩ : ∃ W3, w2.setCell ⟨w.heap.size, 0, none⟩ (.pointer (some ⟨a, 0, none⟩)) = W3 := ⟨_, rfl⟩
 have ho3 : Only (fun k => k = w.heap.size) w2 W3 := by rw [<- hW3]; exact (Only.refl (fun k => k = w.heap.size) w2).setCell (p := ⟨w.heap.size, 0, none⟩) (fun _ => rfl) _
 have h3h : W3.heap[w.heap.size]? = some (.cells #[.pointer (some ⟨a, 0, none⟩), .slice none 0 0, .slice none 0 0] 99 (0, 0)) := by rw [<- hW3, heap_setCell_at h2h]; rfl
 have hnSJ : ¬ SJ w.heap.size := fun hk => by
  rcases j1 _ hk with h | h
  ·exact hSD _ (Nat.le_refl _) h
  ·omega
 have d3 : Stands SJ W3 p D2 := j2.kept ho3 (fun k hk e => hnSJ (e ▸ hk))
 have jr3 : Jr 104 W3 a p J2 := j6.only ho3 (fun e => by omega)
 have hz3 := ho3.size
 have CF3 := Lib.hid (CF.out SJ W3 a d3 jr3)
 have e3 : W3.cell? ⟨w.heap.size, 0, none⟩ = some (.pointer (some ⟨a, 0, none⟩)) := by rw [cell_at h3h]; rfl
 have HFin : Hid (∀ w4, Below W3.heap.size W3 w4 -> (∀ k, (fun k => k = w4.heap.size \/ k = w.heap.size \/ k = a \/ SJ k \/ SC k) k -> SD k \/ w.heap.size <= k) /\ St (fun k => k = w4.heap.size \/ k = w.heap.size \/ k = a \/ SJ k \/ SC k) (w4.alloc (.cells #[.pointer (some ⟨w.heap.size, 0, none⟩), .pointer (some ⟨c, 0, none⟩), .string TB, .string TB, .bool false] 96)) w4.heap.size p (TS.opened n H) (N + 1) 0 /\ Only SD w (w4.alloc (.cells #[.pointer (some ⟨w.heap.size, 0, none⟩), .pointer (some ⟨c, 0, none⟩), .string TB, .string TB, .bool false] 96)) /\ w.heap.size <= w4.heap.size) := fun w4 hb4 => by
  have hz4 := hb4.size
  have hcl : ∀ k, SC k -> k < w1.heap.size := HC2.out.lt
  have hba : Below W3.heap.size W3 (w4.alloc (.cells #[.pointer (some ⟨w.heap.size, 0, none⟩), .pointer (some ⟨c, 0, none⟩), .string TB, .string TB, .bool false] 96)) := hb4.alloc hz4 _
  have hSC : ∀ k, SC k -> w.heap.size < k := fun k hk => by have := HC1.out k hk; omega
  have hcch : Ca.Cch SC W3 c _ (Ca.CS.new m) := (HC2.out.kept j3 (fun k hk hd => hSD k (by have := hSC k hk; omega) hd)).kept ho3 (fun k hk e => by have := hSC k hk; omega)
  have hdl := d3.lt
  have hal := jr3.lt
  refine ⟨fun k hk => ?_, HSt.out SJ SC _ w.heap.size a c w4.heap.size ?_ (jr3.below hba) (d3.below hba) (hcch.below hba) ?_ hnSJ j5 (by omega) (fun hk => by have := hSC _ hk; omega) (fun hk => by have := hcl _ hk; omega) (fun k hk hc => ?_) (by omega) (by omega) (fun hk => by have := hdl _ hk; omega) (fun hk => by have := hcl _ hk; omega), ?_, by omega⟩
  ·rcases hk with rfl | rfl | rfl | hk | hk
   ·exact .inr (by omega)
   ·exact .inr (Nat.le_refl _)
   ·exact .inr (by omega)
   ·rcases j1 k hk with h | h
    ·exact .inl h
    ·exact .inr (by omega)
   ·exact .inr (by have := hSC k hk; omega)
  ·rw [hba.block _ (by omega)]; exact h3h
  ·exact heap_alloc_new ..
  ·rcases j1 k hk with h | h
   ·exact hSD k (by have := hSC k hc; omega) h
   ·have := hcl k hc; omega
  ·refine ((Only.of_below SD HB1.out (Nat.le_refl _)).trans j3 (fun _ _ h => h)).trans ((ho3.trans (Only.of_below (fun _ => False) hba (Nat.le_refl _)) (fun _ _ h => h.elim))) (fun k hk e => ?_)
   omega
 clear HJ j1 j2 j3 j4 j5 j6 h1h h2h h3h d3 jr3 CJ CF HSt HC1 HC2 ho3 hSD hnSJ
 go_wp2_with fail
 clear hW3 e0 f0
 refine CF3.out.mono ?_
 rintro e w4 ⟨rfl, HB4⟩
 have HFF := Lib.hid (HFin.out w4 HB4.out)
 clear HFin CF3 e3
 go_wp2
 go_ret2
 exact ⟨_, _, rfl, HFF.out⟩
end
end Go.Proofs.YthambopnmhkeeaaGreat
/- The document's own store: what superText and bitmapBlocks answer. -/
set_option maxRecDepth 100000
namespace Go.Proofs.YthambopnmhkeeaaGreat
open Go.RowKit
set_option maxHeartbeats 400000 in
theorem rbitb_any (n : Nat) (hn : n <= 4096) (w : World) : Calls Tryz.prog 78 #[.int .i64 (n : Int)] w fun e w' => e = .returned (.int .i64 (nbM n : Nat)) /\ w = w' := by
 have h1 : IntKind.i64.wrap ((n : Int) + 2047) = (n : Int) + 2047 := IntWalk.i64_in _ (by omega)
 have h2 : ((n : Int) + 2047).tdiv 2048 = (nbM n : Nat) := by unfold nbM; rw [Int.tdiv_eq_ediv_of_nonneg (by omega)]; omega
 have h3 : IntKind.i64.wrap ((nbM n : Nat) : Int) = ((nbM n : Nat) : Int) := IntWalk.i64_in _ (by unfold nbM; omega)
 have h4 : ((n : Int) + 2047) / 2048 = (nbM n : Nat) := by unfold nbM; omega
 generalize nbM n = k at *
 go_enter Tryz.func78, Tryz.ntmps78
 go_wp2
 go_ret
 exact ⟨by first | rfl | (rw [h4]) | (rw [h2]), rfl⟩
set_option maxHeartbeats 1000000 in
theorem rsuper_any (n : Nat) (hn : n <= 4096) (w : World) : Calls Tryz.prog 81 #[.int .i64 (n : Int)] w fun e w' => e = .returned (.string (labelB n)) /\ Hid (Below w.heap.size w w') := by
 obtain ⟨i0, hi, hz0, hz1, hz2⟩ := info_parts Tryz.infoB
 have HZ2 := Lib.hid hz2; clear hz2
 obtain ⟨T, hT⟩ : ∃ T, Fr.bs (Fr.fixL n) = T := ⟨_, rfl⟩
 have hs : T.size = 4 := by rw [<- hT]; rfl
 have CF : Hid (∀ W, Calls Tryz.prog 143 #[.int .u32 (n : Int)] W fun e w' => e = .returned (.string T) /\ Below W.heap.size W w') := fun W => by rw [<- hT]; exact Fr.rfixed_any n W (by omega)
 have HE : Hid (labelB n = (⟨#[67, 68, 88, 66]⟩ ++ T) ++ Fr.bs (List.replicate 248 0)) := by
  show _ = _
  unfold labelB labelL
  rw [<- hT, show (⟨#[67, 68, 88, 66]⟩ : ByteArray) = Fr.bs [67, 68, 88, 66] from rfl, Fr.bs_append, Fr.bs_append, List.append_assoc]
 have hz : (Fr.bs (List.replicate 248 0)).size = 248 := by rw [Fr.bs_len, List.length_replicate]
 have HZt : Hid (∀ (W : World) (g B : Nat), W.ownsRow B 5 1 (.slice (some ⟨g, 0, none⟩) 248 248) 248 (List.replicate 248 (.int .u8 0)) -> (convert 107 9 (.slice (some ⟨g, 0, none⟩) 248 248)).run Tryz.prog W = .ok (.string (Fr.bs (List.replicate 248 0))) W) := fun W g B h => by
  have := Bm.zero_text h
  exact this
 clear hT
 generalize Fr.bs (List.replicate 248 0) = Z at *
 have h1 : T.size <= 4 := by omega
 have h2 : 4 <= T.size := by omega
 have h3 : Z.size <= 248 := by omega
 have HM : Hid ((256 : Int) - (4 + (T.size : Int)) = ((248 : Nat) : Int)) := by show _ = _; omega
 clear hs hz
 have hc : IntKind.u32.wrap (n : Int) = (n : Int) := by simp [IntKind.wrap, IntKind.bits, IntKind.signed]; omega
 go_enter Tryz.func81, Tryz.ntmps81
 go_wp2_with fail
 refine (CF.out _).mono ?_
 rintro e w1 ⟨rfl, hb1⟩
 have HB1 := Lib.hid hb1; clear hb1
 have hz1' := HB1.out.size
 go_wp2_with (at_make; refine wpList_make_full _ rfl _ _ 107 rfl w.heap.size 5 i0 (.int .u8 0) 1 Tryz.underlying107 hi hz0 hz1 _ _ _ _ 248 rfl rfl HM.out HM.out (by rw [HZ2.out]; omega) (by unfold maxLen; omega) hz1' ?_)
 intro w2 hown hgrow
 rw [toList_madeCells_one] at hown
 have hconv := HZt.out _ _ _ hown
 have HB2 : Hid (Below w.heap.size w w2) := HB1.out.trans ((Below.refl _ _).grown hgrow hz1' (fun k h => by cases h))
 clear hown hgrow HZt
 go_wp2
 go_ret
 exact ⟨by rw [HE.out]; rfl, HB2.out⟩
end Go.Proofs.YthambopnmhkeeaaGreat
