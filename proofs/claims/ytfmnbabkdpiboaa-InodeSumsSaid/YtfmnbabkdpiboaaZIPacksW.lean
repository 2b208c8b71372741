/- InodePacks' walk. -/
import Derived.Test.YtfmnbabkdpiboaaZIUnp
import Derived.Test.YtfmnbabkdpiboaaZIOpen
import Derived.Test.YtfmnbabkdpiboaaZRPack

namespace Go.Proofs.Ytfmnbabkdpiboaa
open Go.RowKit
open Fr (bs str_len below_drewN)

theorem asB_names {L : List Fl} (h : asB L = true) : (∀ f ∈ L, f.name.size ≤ 1000000) ∧ L.length ≤ 100000 := by
  unfold asB at h
  simp only [Bool.and_eq_true, decide_eq_true_eq, List.all_eq_true] at h
  refine ⟨fun f hf => ?_, by omega⟩
  have := h.2 f hf
  unfold fewB at this
  simp only [Bool.and_eq_true, decide_eq_true_eq] at this
  omega
set_option maxRecDepth 100000 in
set_option maxHeartbeats 8000000 in
theorem packs_any (v : Value) (L : List Fl) (w : World) (hL : FilesA w v L) : Calls Try.prog 4 #[v] w fun e w' => e = .returned (.bool true) ∧ Below w.heap.size w w' := by
  obtain ⟨hsl, hn, hN⟩ := hL
  have hn' : L.length ≤ 9223372036854775807 := by unfold maxLen at hn; omega
  have HSl := Lib.hid hsl
  obtain ⟨ao, c, hv, _⟩ := hsl
  subst hv
  have CS := Lib.hid fun W => shown8_any W
  have CA := Lib.hid fun W (hW : Below w.heap.size w W) => as_any L (.slice ao L.length c) W (HSl.out.below hW) hn'
  have CP := Lib.hid fun W (hW : Below w.heap.size w W) => pack_two L (.slice ao L.length c) W (HSl.out.below hW) hN hn'
  have CQ := Lib.hid fun (W : World) v2 (h1 : SlF W v2 L) (h2 : asB L = true) => rpack_any L v2 W h1 hN (asB_names h2).1 (asB_names h2).2
  clear hn hN
  generalize packS L = t at *
  generalize packE L = pe at *
  go_enter Try.func4, Try.ntmps4
  go_wp2_with fail
  refine (CS.out _).mono ?_
  rintro e w1 ⟨rfl, hb1⟩
  have HB1 := Lib.hid hb1; clear hb1
  go_wp2_with fail
  refine (CA.out _ HB1.out).mono ?_
  rintro e w2 ⟨v2, rfl, HV2, hb2⟩
  have HB2 : Hid (Below w.heap.size w w2) := HB1.out.trans (hb2.out.mono HB1.out.size)
  clear hb2 HB1 CA CS
  cases hok : asB L
  · go_wp2_with fail
    go_ret
    exact ⟨rfl, HB2.out⟩
  rw [hok] at HV2
  have HV2' : Hid (SlF w2 v2 L) := HV2.out rfl
  have HOK := Lib.hid hok
  clear hok HV2
  have hq : (t.toList == t.toList) = true := by simp
  have hq2 : (pe == pe) = true := by simp
  go_wp2_with fail
  refine (CP.out _ HB2.out).mono ?_
  rintro e w3 ⟨rfl, hb3⟩
  have HB3 : Hid (Below w.heap.size w w3) := HB2.out.trans (hb3.mono HB2.out.size)
  have HV3 := Lib.hid (HV2'.out.below hb3)
  clear hb3 HB2 HV2' CP
  go_wp2_with fail
  refine (CQ.out _ _ HV3.out HOK.out).mono ?_
  rintro e w4 ⟨rfl, hb4⟩
  have HB4 : Hid (Below w.heap.size w w4) := HB3.out.trans (hb4.mono HB3.out.size)
  clear hb4 HB3 HV3 CQ
  go_wp2_with fail
  go_ret
  exact ⟨by simp, HB4.out⟩
end Go.Proofs.Ytfmnbabkdpiboaa
/- InodeBack's walk. -/
namespace Go.Proofs.Ytfmnbabkdpiboaa
open Go.RowKit
open Fr (bs str_len below_drewN)

theorem nums_right {L : List Fl} (h : RightP L 0 4096) : Nums64 L := fun f hf => by
  have hs := h.tiny f hf
  refine ⟨by have := hs.short; omega, by have := hs.size; unfold I64; omega, fun x hx => ?_⟩
  have := hs.ext x hx
  unfold I64; omega
set_option maxRecDepth 100000 in
set_option maxHeartbeats 8000000 in
theorem back_any (v : Value) (s : ByteArray) (L : List Fl) (w : World) (hL : FilesA w v L) (hs : s.size ≤ maxLen) : Calls Try.prog 6 #[v, .string s] w fun e w' => e = .returned (.bool true) ∧ Below w.heap.size w w' := by
  obtain ⟨hsl, hn, hN⟩ := hL
  have hn' : L.length ≤ 9223372036854775807 := by unfold maxLen at hn; omega
  unfold maxLen at hs
  have HSl := Lib.hid hsl
  obtain ⟨ao, c, hv, _⟩ := hsl
  subst hv
  have CS := Lib.hid fun W => shown8_any W
  have CA := Lib.hid fun W (hW : Below w.heap.size w W) => as_any L (.slice ao L.length c) W (HSl.out.below hW) hn'
  have CP := Lib.hid fun W (hW : Below w.heap.size w W) => pack_two L (.slice ao L.length c) W (HSl.out.below hW) hN hn'
  have hps := packS_size L
  have CU := Lib.hid fun W => unpack_any (packS L) W (by omega)
  have HUp : Hid (packE L = 0 → unpR (packS L).data.toList = (L, 0)) := fun h => by rw [packS_zero h, bs_list]; exact unpR_packed L (packE_zero h).1 (packE_zero h).2
  have HFew : Hid (asB L = true → L.length ≤ 100000 ∧ ∀ f ∈ L, f.ext.length ≤ 100000) := fun h => by
    unfold asB at h
    simp only [Bool.and_eq_true, decide_eq_true_eq, List.all_eq_true] at h
    refine ⟨by omega, fun f hf => ?_⟩
    have := h.2 f hf
    unfold fewB at this
    simp only [Bool.and_eq_true, decide_eq_true_eq] at this
    omega
  have CSame := Lib.hid fun va vb W h1 h2 h3 h4 => same_any L va vb W h1 h2 h3 h4
  clear hn hN hps
  obtain ⟨n, hl⟩ : ∃ n, L.length = n := ⟨_, rfl⟩
  have HN := Lib.hid hl
  rw [hl] at CA CP hn' ⊢
  clear hl
  generalize packS L = t at *
  have hE := packE_cases L
  generalize packE L = pe at *
  go_enter Try.func6, Try.ntmps6
  go_wp2_with fail
  refine (CS.out _).mono ?_
  rintro e w1 ⟨rfl, hb1⟩
  have HB1 := Lib.hid hb1; clear hb1
  go_wp2_with fail
  refine (CA.out _ HB1.out).mono ?_
  rintro e w2 ⟨v2, rfl, HV2, hb2⟩
  have HB2 : Hid (Below w.heap.size w w2) := HB1.out.trans (hb2.out.mono HB1.out.size)
  clear hb2 HB1 CA CS
  cases hok : asB L
  · go_wp2_with fail
    go_ret
    exact ⟨rfl, HB2.out⟩
  rw [hok] at HV2
  obtain ⟨hf1, hf2⟩ := HFew.out hok
  have HF2 := Lib.hid hf2
  have HV2' : Hid (SlF w2 v2 L) := HV2.out rfl
  clear HFew hf2 hok HV2
  by_cases s5 : 5000 < s.size
  · have z5 : (5000 : Int) < (s.size : Int) := by omega
    go_wp2_with fail
    go_ret
    exact ⟨rfl, HB2.out⟩
  have z5 : ¬ (5000 : Int) < (s.size : Int) := by omega
  have CU2 := Lib.hid fun W => unpack_any s W (by omega)
  have HU1 : Hid ((unpR s.data.toList).2 = 0 → RightP (unpR s.data.toList).1 0 4096 ∧ packE (unpR s.data.toList).1 = 0 ∧ packS (unpR s.data.toList).1 = s) := fun h => by
    obtain ⟨q1, q2, q3⟩ := unpR_ok h
    have q4 := packE_of q1 q2
    exact ⟨q1, q4, by rw [packS_zero q4, q3, Fr.bs_self]⟩
  have HU2 : Hid ((unpR s.data.toList).2 ≠ 0 → (unpR s.data.toList).1 = []) := fun h => unpR_bad h
  generalize unpR s.data.toList = R at *
  obtain ⟨Y, gE⟩ := R
  dsimp only at CU2 HU1 HU2
  go_wp2_with fail
  refine (CP.out _ HB2.out).mono ?_
  rintro e w3 ⟨rfl, hb3⟩
  have HB3 : Hid (Below w.heap.size w w3) := HB2.out.trans (hb3.mono HB2.out.size)
  have HV3 := Lib.hid (HV2'.out.below hb3)
  clear hb3 HB2 HV2' CP
  have HFin : Hid (∀ (W : World), Below w.heap.size w W → True) := fun _ _ => trivial
  by_cases hpe : pe = 0
  · subst hpe
    have hup := HUp.out rfl
    rw [hup] at CU
    go_wp2_with fail
    refine (CU.out _).mono ?_
    rintro e w4 ⟨vx, rfl, HX, hb4⟩
    have HB4 : Hid (Below w.heap.size w w4) := HB3.out.trans (hb4.out.mono HB3.out.size)
    have HV4 := Lib.hid (HV3.out.below hb4.out)
    have HX4 := Lib.hid HX.out.sl
    obtain ⟨xo, xc, hvx⟩ := HX.out.shape
    subst hvx
    clear hb4 HB3 HV3 HX CU HUp hup
    go_wp2_with fail
    refine (CSame.out _ _ _ HX4.out HV4.out hf1 HF2.out).mono ?_
    rintro e w5 ⟨rfl, hb5⟩
    have HB5 : Hid (Below w.heap.size w w5) := HB4.out.trans (hb5.mono HB4.out.size)
    clear hb5 HB4 HV4 HX4 CSame
    go_wp2_with fail
    refine (CU2.out _).mono ?_
    rintro e w6 ⟨vy, rfl, HY, hb6⟩
    have HB6 : Hid (Below w.heap.size w w6) := HB5.out.trans (hb6.out.mono HB5.out.size)
    obtain ⟨yo, yc, hvy⟩ := HY.out.shape
    subst hvy
    have HY6 := Lib.hid HY.out.sl
    clear hb6 HB5 HY CU2
    by_cases hg : gE = 0
    · subst hg
      obtain ⟨q1, q2, q3⟩ := HU1.out rfl
      have CQ := Lib.hid (pack_two Y (.slice yo Y.length yc) w6 HY6.out (nums_right q1) (by have := q1.1; omega))
      rw [q2, q3] at CQ
      clear HU1 HU2 q1 q2 q3
      have hq0 : (s.toList == s.toList) = true := by simp
      generalize Y.length = yn at *
      go_wp2_with fail
      refine CQ.out.mono ?_
      rintro e w7 ⟨rfl, hb7⟩
      have HB7 : Hid (Below w.heap.size w w7) := HB6.out.trans (hb7.mono HB6.out.size)
      clear hb7 HB6 CQ
      go_wp2_with fail
      go_ret
      exact ⟨rfl, HB7.out⟩
    · have hY := HU2.out hg
      subst hY
      clear HU1 HU2
      go_wp2_with fail
      go_ret
      exact ⟨rfl, HB6.out⟩
  · clear CU HUp CSame HV3
    go_wp2_with fail
    refine (CU2.out _).mono ?_
    rintro e w6 ⟨vy, rfl, HY, hb6⟩
    have HB6 : Hid (Below w.heap.size w w6) := HB3.out.trans (hb6.out.mono HB3.out.size)
    obtain ⟨yo, yc, hvy⟩ := HY.out.shape
    subst hvy
    have HY6 := Lib.hid HY.out.sl
    clear hb6 HB3 HY CU2
    by_cases hg : gE = 0
    · subst hg
      obtain ⟨q1, q2, q3⟩ := HU1.out rfl
      have CQ := Lib.hid (pack_two Y (.slice yo Y.length yc) w6 HY6.out (nums_right q1) (by have := q1.1; omega))
      rw [q2, q3] at CQ
      clear HU1 HU2 q1 q2 q3
      have hq0 : (s.toList == s.toList) = true := by simp
      generalize Y.length = yn at *
      go_wp2_with fail
      refine CQ.out.mono ?_
      rintro e w7 ⟨rfl, hb7⟩
      have HB7 : Hid (Below w.heap.size w w7) := HB6.out.trans (hb7.mono HB6.out.size)
      clear hb7 HB6 CQ
      go_wp2_with fail
      go_ret
      exact ⟨rfl, HB7.out⟩
    · have hY := HU2.out hg
      subst hY
      clear HU1 HU2
      go_wp2_with fail
      go_ret
      exact ⟨rfl, HB6.out⟩
end Go.Proofs.Ytfmnbabkdpiboaa
