/- InodeReads' walk. -/
import Derived.Test.YtfmnbabkdpiboaaZIPacksW
import Derived.Test.YtfmnbabkdpiboaaZRUnp
import Derived.Test.YtfmnbabkdpiboaaZWFix

namespace Go.Proofs.Ytfmnbabkdpiboaa
open Go.RowKit
open Fr (bs str_len below_drewN)

def pickI (c n : Int) : Int := (if c < 0 then -(c + 1) else c) % n
theorem pickI_lt (c n : Int) (hn : 0 < n) : 0 ≤ pickI c n ∧ pickI c n < n := ⟨Int.emod_nonneg _ (by omega), Int.emod_lt_of_pos _ hn⟩
set_option maxRecDepth 100000 in
set_option maxHeartbeats 400000 in
theorem ipick_any (c n : Int) (w : World) (hc : -9223372036854775808 ≤ c ∧ c ≤ 9223372036854775807) (hn : 0 < n ∧ n ≤ 1000000) :
    Calls Try.prog 23 #[.int .i64 c, .int .i64 n] w fun e w' => e = .returned (.int .i64 (pickI c n)) ∧ w = w' := by
  have hne : (n == 0) = false := by simp; omega
  have hm1 : (n == -1) = false := by simp; omega
  by_cases h : c < 0
  · have HP : Hid (pickI c n = -((c + 1).tmod n)) := by
      show pickI c n = _; unfold pickI
      rw [if_pos h, ← Int.neg_tmod, Int.tmod_eq_emod_of_nonneg (by omega)]
    go_enter Try.func23, Try.ntmps23
    go_wp2
    go_ret
    exact ⟨by rw [HP.out]; rfl, rfl⟩
  · have HP : Hid (pickI c n = c % n) := by show pickI c n = _; unfold pickI; rw [if_neg h]
    have h0 : 0 ≤ c := by omega
    go_enter Try.func23, Try.ntmps23
    go_wp2
    go_ret
    exact ⟨by rw [HP.out]; rfl, rfl⟩
/-- What is unpacked is no great list. -/
theorem unpR_few (l : List UInt8) : (unpR l).1.length ≤ 100000 ∧ ∀ f ∈ (unpR l).1, f.ext.length ≤ 100000 := by
  by_cases h : (unpR l).2 = 0
  · obtain ⟨h1, _, _⟩ := unpR_ok h
    exact ⟨by have := h1.1; omega, fun f hf => by have := (h1.small f hf).few; omega⟩
  · rw [unpR_bad h]; exact ⟨by simp, by simp⟩
/-- Bytes, unpacked by both: the same. -/
theorem both_unp (s : ByteArray) (hs : s.size ≤ 1000000) : ∃ (U : List Fl) (u : Int), U.length ≤ 100000 ∧ (∀ f ∈ U, f.ext.length ≤ 100000) ∧ (∀ W, Calls Try.prog 20 #[.string s] W fun e w' => ∃ ao c, e = .returned (.tuple #[.slice ao U.length c, .int .i64 u]) ∧ Hid (SlF w' (.slice ao U.length c) U) ∧ Hid (Below W.heap.size W w')) ∧
    (∀ W, Calls Try.prog 21 #[.string s] W fun e w' => ∃ ao c, e = .returned (.tuple #[.slice ao U.length c, .int .i64 u]) ∧ Hid (SlF w' (.slice ao U.length c) U) ∧ Hid (Below W.heap.size W w')) := by
  obtain ⟨h1, h2⟩ := unpR_few s.data.toList
  refine ⟨_, (unpR s.data.toList).2, h1, h2, fun W => (unpack_any s W hs).mono fun e w' ⟨v, he, ho, hb⟩ => ?_, fun W => (runpack8_any s W hs).mono fun e w' ⟨v, he, ho, hb⟩ => ?_⟩
  · obtain ⟨ao, c, rfl⟩ := ho.out.shape
    exact ⟨ao, c, he, ho.out.sl, hb⟩
  · obtain ⟨ao, c, hv, rest⟩ := ho.out
    subst hv
    exact ⟨ao, c, he, ho, hb⟩
set_option maxRecDepth 100000 in
set_option maxHeartbeats 16000000 in
theorem reads_any (s : ByteArray) (v : Value) (at_ tb : Int) (L : List Fl) (w : World) (hs : s.size ≤ maxLen) (hL : FilesA w v L) (ha : I64 at_) (ht : I64 tb) : Calls Try.prog 5 #[.string s, v, .int .i64 at_, .int .i64 tb] w fun e w' => e = .returned (.bool true) ∧ Below w.heap.size w w' := by
  obtain ⟨hsl, hn, hN⟩ := hL
  have hn' : L.length ≤ 9223372036854775807 := by unfold maxLen at hn; omega
  unfold maxLen at hs
  have HSl := Lib.hid hsl
  obtain ⟨ao, c, hv, _⟩ := hsl
  subst hv
  have CS := Lib.hid fun W => shown8_any W
  have CA := Lib.hid fun W (hW : Below w.heap.size w W) => as_any L (.slice ao L.length c) W (HSl.out.below hW) hn'
  have CQ := Lib.hid fun (W : World) v2 (h1 : SlF W v2 L) (h2 : asB L = true) => rpack_any L v2 W h1 hN (asB_names h2).1 (asB_names h2).2
  have CSame := Lib.hid fun (U : List Fl) va vb W h1 h2 h3 h4 => same_any U va vb W h1 h2 h3 h4
  have hts : packE L = 0 → (packS L).size = 3072 := fun h => by rw [packS_zero h, Fr.bs_size, packed_len L (packE_zero h).2]
  clear hn hN
  generalize packS L = t at *
  have hE := packE_cases L
  generalize packE L = pe at *
  go_enter Try.func5, Try.ntmps5
  go_wp2_with fail
  refine (CS.out _).mono ?_
  rintro e w1 ⟨rfl, hb1⟩
  have HB1 := Lib.hid hb1; clear hb1
  go_wp2_with fail
  refine (CA.out _ HB1.out).mono ?_
  rintro e w2 ⟨v2, rfl, HV2, hb2⟩
  have HB2 : Hid (Below w.heap.size w w2) := HB1.out.trans (hb2.out.mono HB1.out.size)
  clear hb2 HB1 CA CS
  cases hok : asB L
  · go_wp2_with fail
    go_ret
    exact ⟨rfl, HB2.out⟩
  rw [hok] at HV2
  have HV2' : Hid (SlF w2 v2 L) := HV2.out rfl
  have HOK := Lib.hid hok
  clear hok HV2
  by_cases s5 : 5000 < s.size
  · have z5 : (5000 : Int) < (s.size : Int) := by omega
    go_wp2_with fail
    go_ret
    exact ⟨rfl, HB2.out⟩
  have z5 : ¬ (5000 : Int) < (s.size : Int) := by omega
  obtain ⟨U, u, hU1, hU2, hc1, hc2⟩ := both_unp s (by omega)
  have C1 := Lib.hid hc1; have C2 := Lib.hid hc2; have HU2 := Lib.hid hU2
  have HCU := Lib.hid fun va vb W h1 h2 => CSame.out U va vb W h1 h2 hU1 HU2.out
  obtain ⟨un, hun⟩ : ∃ un, U.length = un := ⟨_, rfl⟩
  rw [hun] at C1 C2
  have hq1 : (u == u) = true := by simp
  have hq2 : (u != u) = false := by simp
  clear hc1 hc2 hU2 hun
  go_wp2_with fail
  refine (C1.out _).mono ?_
  rintro e w3 ⟨xo, xc, rfl, HX3, hb3⟩
  have HB3 : Hid (Below w.heap.size w w3) := HB2.out.trans (hb3.out.mono HB2.out.size)
  have HV3 := Lib.hid (HV2'.out.below hb3.out)
  clear hb3 HB2 HV2' C1
  go_wp2_with fail
  refine (C2.out _).mono ?_
  rintro e w4 ⟨yo, yc, rfl, HY4, hb4⟩
  have HB4 : Hid (Below w.heap.size w w4) := HB3.out.trans (hb4.out.mono HB3.out.size)
  have HV4 := Lib.hid (HV3.out.below hb4.out)
  have HX4 := Lib.hid (HX3.out.below hb4.out)
  clear hb4 HB3 HV3 HX3 C2
  go_wp2_with fail
  refine (HCU.out _ _ _ HX4.out HY4.out).mono ?_
  rintro e w5 ⟨rfl, hb5⟩
  have HB5 : Hid (Below w.heap.size w w5) := HB4.out.trans (hb5.mono HB4.out.size)
  have HV5 := Lib.hid (HV4.out.below hb5)
  clear hb5 HB4 HV4 HX4 HY4 HCU
  go_wp2_with fail
  refine (CQ.out _ _ HV5.out HOK.out).mono ?_
  rintro e w6 ⟨rfl, hb6⟩
  have HB6 : Hid (Below w.heap.size w w6) := HB5.out.trans (hb6.mono HB5.out.size)
  clear hb6 HB5 HV5 CQ
  by_cases hpe : pe = 0
  case neg =>
    have hpz : (pe != 0) = true := bne_iff_ne.2 hpe
    go_wp2_with fail
    go_ret
    exact ⟨rfl, HB6.out⟩
  subst hpe
  have htz := hts rfl
  have htl : t.data.toList.length = 3072 := by rw [str_len]; exact htz
  obtain ⟨cap, W7, hcv, hrow, hb7⟩ := Fr.bytes_new w6 t
  rw [htz] at hcv
  have HB7 : Hid (Below w.heap.size w W7) := HB6.out.trans (hb7.mono HB6.out.size)
  have hg7 : w6.heap.size < W7.heap.size := World.block_lt_of_cell? W7 _ (hrow 0 (by omega)).1
  have hb6s := HB6.out.size
  obtain ⟨hp0, hp1⟩ := pickI_lt at_ 3072 (by omega)
  have CP := Lib.hid fun W => ipick_any at_ 3072 W (by unfold I64 at ha; exact ha) (by omega)
  generalize pickI at_ 3072 = pk at *
  obtain ⟨k, rfl⟩ : ∃ k : Nat, pk = (k : Int) := ⟨pk.toNat, by omega⟩
  have hk : k < t.data.toList.length := by omega
  have ckk : ∃ x, W7.cell? ⟨w6.heap.size, k, none⟩ = some x := ⟨_, (hrow k hk).1⟩
  obtain ⟨cx, ck⟩ := ckk
  have fk := (hrow k hk).2
  have i2 : (k : Int) < 3072 := by omega
  have hr8 := hrow.put k hk (Fr.byteOf tb)
  rw [Fr.byteOf_val] at hr8
  have hl8 : (t.data.toList.set k (Fr.byteOf tb)).length = 3072 := by rw [List.length_set]; exact htl
  have hsz8 : (bs (t.data.toList.set k (Fr.byteOf tb))).size ≤ 1000000 := by rw [Fr.bs_size]; omega
  have hcv8 : ∀ W : World, Below W7.heap.size (W7.setCell ⟨w6.heap.size, k, none⟩ (.int .u8 (tb % 256))) W → (convert 44 9 (.slice (some ⟨w6.heap.size, 0, none⟩) 3072 cap)).run Try.prog W = .ok (.string (bs (t.data.toList.set k (Fr.byteOf tb)))) W := fun W hW => by
    have h1 := (hr8.below (w' := W) (by simpa [World.setCell] using hW) (by simpa [World.setCell] using hg7)).text (cap := cap)
    rw [hl8] at h1
    exact h1
  have HCV := Lib.hid hcv8
  have HB8 : Hid (Below w.heap.size w (W7.setCell ⟨w6.heap.size, k, none⟩ (.int .u8 (tb % 256)))) := HB7.out.setCell hb6s _
  have hsW : (W7.setCell ⟨w6.heap.size, k, none⟩ (.int .u8 (tb % 256))).heap.size = W7.heap.size := by simp [World.setCell]
  generalize bs (t.data.toList.set k (Fr.byteOf tb)) = T at *
  obtain ⟨V, u3, hV1, hV2, hc1, hc2⟩ := both_unp T hsz8
  have C1 := Lib.hid hc1; have C2 := Lib.hid hc2
  have HCV2 := Lib.hid fun va vb W h1 h2 => CSame.out V va vb W h1 h2 hV1 hV2
  obtain ⟨vn, hvn⟩ : ∃ vn, V.length = vn := ⟨_, rfl⟩
  rw [hvn] at C1 C2
  have hq3 : (u3 == u3) = true := by simp
  clear hc1 hc2 hV2 hvn hrow hr8 hl8 htl hcv8 hts CSame hk htz hb7 HB7 HB6
  go_wp2_with fail
  refine (CP.out _).mono ?_
  rintro e w8 ⟨rfl, rfl⟩
  have hc8 := HCV.out _ (Below.refl _ _)
  go_wp2_with fail
  refine (C1.out _).mono ?_
  rintro e w9 ⟨po, pc, rfl, HP9, hb9⟩
  have HB9 : Hid (Below w.heap.size w w9) := HB8.out.trans (hb9.out.mono (by rw [hsW]; omega))
  have hc9 := HCV.out _ (hb9.out.mono (by rw [hsW]; exact Nat.le_refl _))
  have HCV9 : Hid (w6.heap.size < w9.heap.size) := by have := hb9.out.size; show _ < _; omega
  clear hc8 HB8 C1 hb9
  go_wp2_with fail
  refine (C2.out _).mono ?_
  rintro e w10 ⟨ro, rc, rfl, HQ10, hb10⟩
  have HB10 : Hid (Below w.heap.size w w10) := HB9.out.trans (hb10.out.mono HB9.out.size)
  have HP10 := Lib.hid (HP9.out.below hb10.out)
  clear hc9 HB9 C2 hb10 HP9 HCV
  go_wp2_with fail
  refine (HCV2.out _ _ _ HP10.out HQ10.out).mono ?_
  rintro e w11 ⟨rfl, hb11⟩
  have HB11 : Hid (Below w.heap.size w w11) := HB10.out.trans (hb11.mono HB10.out.size)
  clear hb11 HB10
  go_wp2_with fail
  go_ret
  exact ⟨by simp, HB11.out⟩
end Go.Proofs.Ytfmnbabkdpiboaa
