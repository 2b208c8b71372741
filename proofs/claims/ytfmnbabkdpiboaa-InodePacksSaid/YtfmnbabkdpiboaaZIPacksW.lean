/- InodePacks' walk. -/
import Derived.Test.YtfmnbabkdpiboaaZIUnp
import Derived.Test.YtfmnbabkdpiboaaZIOpen
import Derived.Test.YtfmnbabkdpiboaaZRPack

namespace Go.Proofs.Ytfmnbabkdpiboaa
open Go.RowKit
open Fr (bs str_len below_drewN)

theorem asB_names {L : List Fl} (h : asB L = true) : (∀ f ∈ L, f.name.size ≤ 1000000) ∧ L.length ≤ 100000 := by
  unfold asB at h
  simp only [Bool.and_eq_true, decide_eq_true_eq, List.all_eq_true] at h
  refine ⟨fun f hf => ?_, by omega⟩
  have := h.2 f hf
  unfold fewB at this
  simp only [Bool.and_eq_true, decide_eq_true_eq] at this
  omega
set_option maxRecDepth 100000 in
set_option maxHeartbeats 8000000 in
theorem packs_any (v : Value) (L : List Fl) (w : World) (hL : FilesA w v L) : Calls Try.prog 4 #[v] w fun e w' => e = .returned (.bool true) ∧ Below w.heap.size w w' := by
  obtain ⟨hsl, hn, hN⟩ := hL
  have hn' : L.length ≤ 9223372036854775807 := by unfold maxLen at hn; omega
  have HSl := Lib.hid hsl
  obtain ⟨ao, c, hv, _⟩ := hsl
  subst hv
  have CS := Lib.hid fun W => shown8_any W
  have CA := Lib.hid fun W (hW : Below w.heap.size w W) => as_any L (.slice ao L.length c) W (HSl.out.below hW) hn'
  have CP := Lib.hid fun W (hW : Below w.heap.size w W) => pack_two L (.slice ao L.length c) W (HSl.out.below hW) hN hn'
  have CQ := Lib.hid fun (W : World) v2 (h1 : SlF W v2 L) (h2 : asB L = true) => rpack_any L v2 W h1 hN (asB_names h2).1 (asB_names h2).2
  clear hn hN
  generalize packS L = t at *
  generalize packE L = pe at *
  go_enter Try.func4, Try.ntmps4
  go_wp2_with fail
  refine (CS.out _).mono ?_
  rintro e w1 ⟨rfl, hb1⟩
  have HB1 := Lib.hid hb1; clear hb1
  go_wp2_with fail
  refine (CA.out _ HB1.out).mono ?_
  rintro e w2 ⟨v2, rfl, HV2, hb2⟩
  have HB2 : Hid (Below w.heap.size w w2) := HB1.out.trans (hb2.out.mono HB1.out.size)
  clear hb2 HB1 CA CS
  cases hok : asB L
  · go_wp2_with fail
    go_ret
    exact ⟨rfl, HB2.out⟩
  rw [hok] at HV2
  have HV2' : Hid (SlF w2 v2 L) := HV2.out rfl
  have HOK := Lib.hid hok
  clear hok HV2
  have hq : (t.toList == t.toList) = true := by simp
  have hq2 : (pe == pe) = true := by simp
  go_wp2_with fail
  refine (CP.out _ HB2.out).mono ?_
  rintro e w3 ⟨rfl, hb3⟩
  have HB3 : Hid (Below w.heap.size w w3) := HB2.out.trans (hb3.mono HB2.out.size)
  have HV3 := Lib.hid (HV2'.out.below hb3)
  clear hb3 HB2 HV2' CP
  go_wp2_with fail
  refine (CQ.out _ _ HV3.out HOK.out).mono ?_
  rintro e w4 ⟨rfl, hb4⟩
  have HB4 : Hid (Below w.heap.size w w4) := HB3.out.trans (hb4.mono HB3.out.size)
  clear hb4 HB3 HV3 CQ
  go_wp2_with fail
  go_ret
  exact ⟨by simp, HB4.out⟩
end Go.Proofs.Ytfmnbabkdpiboaa
