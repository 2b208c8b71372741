/- InodeSums' walk. -/
import Derived.Test.YtfmnbabkdpiboaaZIReadsW
import Derived.Test.YtfmnbabkdpiboaaZISumsM

namespace Go.Proofs.Ytfmnbabkdpiboaa
open Go.RowKit
open Fr (bs str_len below_drewN)

theorem Sm.pow_byte (r : Nat) (h : r < 8) : 2 ^ r < 256 := by
  have : 2 ^ r < 2 ^ 8 := Nat.pow_lt_pow_right (by omega) h
  omega
theorem Sm.xor_place (b : UInt8) (r : Nat) (h : r < 8) : bits .xor .u8 (b.toNat : Int) ((2 : Int) ^ r % 256) = ((b ^^^ UInt8.ofNat (2 ^ r)).toNat : Int) := by
  have e : (2 : Int) ^ r % 256 = ((2 ^ r : Nat) : Int) := by
    have h2 : (2 : Int) ^ r = ((2 ^ r : Nat) : Int) := by rw [Int.natCast_pow]; rfl
    have := Sm.pow_byte r h
    rw [h2]; exact Int.emod_eq_of_lt (Int.natCast_nonneg _) (Int.ofNat_lt.2 this)
  rw [e, u8_xor_nat _ _ (Fr.byte_lt b) (Sm.pow_byte r h), UInt8.toNat_xor, Fr.toNat_of _ (Sm.pow_byte r h)]
theorem Sm.xor_ne (b : UInt8) (r : Nat) (h : r < 8) : b ^^^ UInt8.ofNat (2 ^ r) ≠ b := by
  intro e
  have e2 : UInt8.ofNat (2 ^ r) = 0 := by
    have := congrArg (b ^^^ ·) e
    simpa [← UInt8.xor_assoc] using this
  have e3 := congrArg UInt8.toNat e2
  rw [Fr.toNat_of _ (Sm.pow_byte r h)] at e3
  have : 0 < 2 ^ r := Nat.pow_pos (by omega)
  simp at e3
theorem packed_zero (L : List Fl) : (packed L).getD 0 0 = 67 := by
  unfold packed packL dirL
  simp [List.getD]
set_option maxRecDepth 100000 in
set_option maxHeartbeats 16000000 in
theorem sums_any (v : Value) (bit : Int) (L : List Fl) (w : World) (hL : FilesA w v L) (ha : I64 bit) : Calls Try.prog 9 #[v, .int .i64 bit] w fun e w' => e = .returned (.bool true) ∧ Below w.heap.size w w' := by
  obtain ⟨hsl, hn, hN⟩ := hL
  have hn' : L.length ≤ 9223372036854775807 := by unfold maxLen at hn; omega
  have HSl := Lib.hid hsl
  obtain ⟨ao, c, hv, _⟩ := hsl
  subst hv
  have CS := Lib.hid fun W => shown8_any W
  have CA := Lib.hid fun W (hW : Below w.heap.size w W) => as_any L (.slice ao L.length c) W (HSl.out.below hW) hn'
  have CP := Lib.hid fun W (hW : Below w.heap.size w W) => pack_two L (.slice ao L.length c) W (HSl.out.below hW) hN hn'
  have CQ := Lib.hid fun (W : World) v2 (h1 : SlF W v2 L) (h2 : asB L = true) => rpack_any L v2 W h1 hN (asB_names h2).1 (asB_names h2).2
  have hts := Lib.hid fun (h : packE L = 0) => packS_zero h
  have hte := Lib.hid fun (h : packE L ≠ 0) => packS_bad h
  have hR := Lib.hid fun (h : packE L = 0) => packE_zero h
  have hE := packE_cases L
  clear hn hN
  generalize packS L = t at *
  generalize packE L = pe at *
  go_enter Try.func9, Try.ntmps9
  go_wp2_with fail
  refine (CS.out _).mono ?_
  rintro e w1 ⟨rfl, hb1⟩
  have HB1 := Lib.hid hb1; clear hb1
  go_wp2_with fail
  refine (CA.out _ HB1.out).mono ?_
  rintro e w2 ⟨v2, rfl, HV2, hb2⟩
  have HB2 : Hid (Below w.heap.size w w2) := HB1.out.trans (hb2.out.mono HB1.out.size)
  clear hb2 HB1 CA CS
  cases hok : asB L
  · go_wp2_with fail
    go_ret
    exact ⟨rfl, HB2.out⟩
  rw [hok] at HV2
  have HV2' : Hid (SlF w2 v2 L) := HV2.out rfl
  have HOK := Lib.hid hok
  clear hok HV2
  go_wp2_with fail
  refine (CP.out _ HB2.out).mono ?_
  rintro e w3 ⟨rfl, hb3⟩
  have HB3 : Hid (Below w.heap.size w w3) := HB2.out.trans (hb3.mono HB2.out.size)
  have HV3 := Lib.hid (HV2'.out.below hb3)
  clear hb3 HB2 HV2' CP
  rcases hE with hE | hE | hE
  case inr.inl =>
    obtain rfl : t = ⟨#[]⟩ := hte.out (by omega)
    subst hE
    clear hts hte hR
    go_wp2_with fail
    go_ret
    exact ⟨by simp, HB3.out⟩
  case inr.inr =>
    obtain rfl : t = ⟨#[]⟩ := hte.out (by omega)
    subst hE
    clear hts hte hR
    go_wp2_with fail
    go_ret
    exact ⟨by simp, HB3.out⟩
  have htE := hts.out hE
  obtain ⟨hR1, hR2⟩ := hR.out hE
  subst hE
  clear hts hte hR
  have hpl := packed_len L hR2
  have HM := Lib.hid (sums_math L hR1 hR2)
  have HZ := Lib.hid (packed_zero L)
  have hld : t.data.toList = packed L := by rw [htE]; rfl
  have hsz : t.size = 3072 := by rw [htE, Fr.bs_size, hpl]
  clear htE hR1 hR2
  rw [← hld] at HM HZ hpl
  clear hld
  have hq : (t.toList == t.toList) = true := by simp
  go_wp2_with fail
  refine (CQ.out _ _ HV3.out HOK.out).mono ?_
  rintro e w4 ⟨rfl, hb4⟩
  have HB4 : Hid (Below w.heap.size w w4) := HB3.out.trans (hb4.mono HB3.out.size)
  clear hb4 HB3 HV3 CQ
  go_wp2_with fail
  go_loop [12] (fun i => ∃ j : Nat, j < 3072 ∧ i = .int .i64 ((j : Int) + 1) ∧ Hid (∀ q, j < q → t.data.toList.getD q 0 = 0)) (fun i => (intOf i).toNat)
  case atStart =>
    refine ⟨3071, by omega, ?_, fun q hq2 => ?_⟩
    · rfl
    · show t.data.toList.getD q 0 = 0
      rw [List.getD, List.getElem?_eq_none (by omega)]; rfl
  case round =>
    obtain ⟨j, hj, rfl, HJ⟩ := hrel
    have hjd : j < t.size := by omega
    have hji : (j : Int) < 3072 := by omega
    have HG : Hid (t.data.toList.getD j 0 = t[j]) := by
      show _ = _
      rw [List.getD, List.getElem?_eq_getElem (by omega)]; rfl
    obtain ⟨y, hy⟩ : ∃ y, t[j] = y := ⟨_, rfl⟩
    have HY := Lib.hid hy
    have hyc : ((y.toNat : Nat) : Int) = (t[j].toNat : Int) := by rw [hy]
    by_cases h0 : y.toNat = 0
    · have hj0 : 0 < j := by
        apply Decidable.byContradiction
        intro hh
        obtain rfl : j = 0 := by omega
        have h1 := HG.out
        rw [HZ.out, hy] at h1
        rw [← h1] at h0
        exact absurd h0 (by decide)
      have hyz : ((y.toNat : Nat) : Int) = 0 := by omega
      have HJ2 : Hid (∀ q, j - 1 < q → t.data.toList.getD q 0 = 0) := fun q hq2 => by
        by_cases e : q = j
        · subst e
          rw [HG.out, HY.out]
          exact UInt8.toNat_inj.1 h0
        · exact HJ.out q (by omega)
      go_wp2_with fail
      go_round
      case rel => exact ⟨j - 1, by omega, by go_num, HJ2⟩
      case measure => simp [intOf] <;> omega
    · have hyz : (((y.toNat : Nat) : Int) == 0) = false := by simp; omega
      by_cases h9 : j < 8
      · have h9i : (j : Int) + 1 < 9 := by omega
        go_wp2_with fail
        go_ret
        exact ⟨by simp, HB4.out⟩
      have h9i : ¬ (j : Int) + 1 < 9 := by omega
      have hHM := HM.out j (by omega) (by omega) (by rw [HG.out, HY.out]; intro e; exact h0 (by rw [e]; rfl)) (fun q h => HJ.out q h)
      obtain ⟨hp0, hp1⟩ := pickI_lt bit 8 (by omega)
      have CK := Lib.hid fun W => ipick_any bit 8 W (by unfold I64 at ha; exact ha) (by omega)
      generalize pickI bit 8 = pk at *
      obtain ⟨r, rfl⟩ : ∃ r : Nat, pk = (r : Int) := ⟨pk.toNat, by omega⟩
      have hr8 : r < 8 := by omega
      have HX : Hid (bits .xor .u8 (y.toNat : Int) (IntKind.u8.wrap (2 ^ min (IntKind.u64.wrap (r : Int)).toNat 8)) = ((y ^^^ UInt8.ofNat (2 ^ r)).toNat : Int)) := by
        have e1 : IntKind.u64.wrap (r : Int) = (r : Int) := by show (r : Int) % 18446744073709551616 = r; omega
        show _ = _
        rw [e1, Int.toNat_natCast, Nat.min_eq_left (by omega), ← Sm.xor_place y r hr8]
        rfl
      have hUz := hHM (y ^^^ UInt8.ofNat (2 ^ r)) (by rw [HG.out, HY.out]; exact Sm.xor_ne y r hr8)
      obtain ⟨cap, W7, hcv, hrow, hb7⟩ := Fr.bytes_new w4 t
      rw [hsz] at hcv
      have HB7 : Hid (Below w.heap.size w W7) := HB4.out.trans (hb7.mono HB4.out.size)
      have hjl : j < t.data.toList.length := by omega
      have hg7 : w4.heap.size < W7.heap.size := World.block_lt_of_cell? W7 _ (hrow j hjl).1
      have hb4s := HB4.out.size
      have htj : t.data.toList[j] = y := by rw [← hy]; rfl
      have hcell := (hrow j hjl).1
      rw [htj] at hcell
      have hfr := (hrow j hjl).2
      have hput := hrow.put j hjl (y ^^^ UInt8.ofNat (2 ^ r))
      have hl8 : (t.data.toList.set j (y ^^^ UInt8.ofNat (2 ^ r))).length = 3072 := by rw [List.length_set]; omega
      have hsz8 : (bs (t.data.toList.set j (y ^^^ UInt8.ofNat (2 ^ r)))).size ≤ 1000000 := by rw [Fr.bs_size]; omega
      have hUs : (unpR (bs (t.data.toList.set j (y ^^^ UInt8.ofNat (2 ^ r)))).data.toList).2 ≠ 0 := hUz
      have HCV := Lib.hid fun (W : World) (hW : Below W7.heap.size (W7.setCell ⟨w4.heap.size, j, none⟩ (.int .u8 ((y ^^^ UInt8.ofNat (2 ^ r)).toNat : Int))) W) => by
        have h1 := (hput.below (w' := W) (by simpa [World.setCell] using hW) (by simpa [World.setCell] using hg7)).text (cap := cap)
        rw [hl8] at h1
        exact h1
      have HB8 : Hid (Below w.heap.size w (W7.setCell ⟨w4.heap.size, j, none⟩ (.int .u8 ((y ^^^ UInt8.ofNat (2 ^ r)).toNat : Int)))) := HB7.out.setCell hb4s _
      generalize y ^^^ UInt8.ofNat (2 ^ r) = z at *
      generalize bs (t.data.toList.set j z) = T at *
      have C1 := Lib.hid fun W => unpack_any T W hsz8
      generalize (unpR T.data.toList).2 = u at *
      have hu : (u != 0) = true := bne_iff_ne.2 hUs
      clear hrow hput hl8 hjl htj hHM hUz hUs hsz8 hb7 HB7 HB4 HM HZ HJ HG HOK hpl hyc
      go_wp2_with fail
      go_region_with ((go_at_call 23; refine (CK.out _).mono ?_; rintro e w8 ⟨rfl, rfl⟩))
      all_goals
        have HB9 := Lib.hid HB8.out.drew
        have hc9 := HCV.out _ (Below.refl _ _).drew
        rw [HX.out]
        go_wp2_with fail
        refine (C1.out _).mono ?_
        rintro e w10 ⟨x, rfl, _, hb10⟩
        have HB10 : Hid (Below w.heap.size w w10) := HB9.out.trans (hb10.out.mono HB9.out.size)
        clear hc9 HB9 HB8 HCV C1 hb10
        go_wp2_with fail
        go_ret
        exact ⟨by simp, HB10.out⟩
end Go.Proofs.Ytfmnbabkdpiboaa
