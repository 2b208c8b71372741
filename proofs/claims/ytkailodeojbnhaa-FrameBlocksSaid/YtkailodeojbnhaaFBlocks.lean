/- FrameBlocks, walked: for any number, any writes and any place it answers true. -/
import Derived.Test.YtkailodeojbnhaaFMore
import Derived.IntWalk
namespace Go.Proofs.Ytkailodeojbnhaa
open Go.RowKit

set_option maxRecDepth 100000 in
set_option maxHeartbeats 4000000 in
theorem blocks_walk (seq : Nat) (v : Value) (at_ : Int) (L : List (Int × ByteArray)) (w : World) (hseq : seq < 18446744073709551616) (hA : WrsA w v L) (hat : -9223372036854775808 ≤ at_ ∧ at_ ≤ 9223372036854775807) :
    Calls Try.prog 7 #[.int .u64 (seq : Int), v, .int .i64 at_] w fun e w' => e = .returned (.bool true) ∧ Below w.heap.size w w' := by
  obtain ⟨hsl, hlen, hel⟩ := hA
  have CS := Lib.hid (shown_any w)
  have CM : Hid (∀ W, Below w.heap.size w W → Calls Try.prog 10 #[v] W fun e w' => e = .returned (.bool (smallW L)) ∧ W = w') := fun W hW => small_any L v W hlen (fun x hx => (hel x hx).1) (hsl.below hW)
  cases hsm : smallW L with
  | false =>
    rw [hsm] at CM
    clear hsm hsl hel hlen
    go_enter Try.func7, Try.ntmps7
    go_wp2_with fail
    refine CS.out.mono ?_
    rintro e w1 ⟨rfl, hb1⟩
    have HB1 := Lib.hid hb1; clear hb1
    go_wp2_with fail
    refine (CM.out _ HB1.out).mono ?_
    rintro e w2 ⟨rfl, rfl⟩
    go_wp2
    go_ret
    exact ⟨rfl, HB1.out⟩
  | true =>
    rw [hsm] at CM
    obtain ⟨h60, h600⟩ := (smallW_iff L).1 hsm
    by_cases h0 : L.length = 0
    · have hL : L = [] := List.eq_nil_of_length_eq_zero h0
      obtain ⟨ao, c, rfl, _⟩ := hsl
      subst hL
      clear hsm hel hlen h600 h60 h0
      simp only [List.length_nil] at CM ⊢
      go_enter Try.func7, Try.ntmps7
      go_wp2_with fail
      refine CS.out.mono ?_
      rintro e w1 ⟨rfl, hb1⟩
      have HB1 := Lib.hid hb1; clear hb1
      go_wp2_with fail
      refine (CM.out _ HB1.out).mono ?_
      rintro e w2 ⟨rfl, rfl⟩
      go_wp2
      go_ret
      exact ⟨rfl, HB1.out⟩
    · have CW : Hid (∀ W, Below w.heap.size w W → Calls Try.prog 14 #[v] W fun e w' => ∃ u, e = .returned u ∧ OwnW W.heap.size w' u (wholeL L) ∧ Below W.heap.size W w') := fun W hW => whole_any L v W h60 (fun x hx => ⟨h600 x hx, (hel x hx).2⟩) (hsl.below hW)
      have hwl : (wholeL L).length ≤ 48 := by rw [wholeL_len]; omega
      have hwl1 : 1 ≤ (wholeL L).length := by rw [wholeL_len]; omega
      have hwok := wholeL_ok L
      have CP : Hid (∀ W u, SlW W u (wholeL L) → Calls Try.prog 11 #[.int .u64 (seq : Int), u] W fun e w' => ∃ v, e = .returned (.tuple #[v, .int .i64 0]) ∧ OwnS W.heap.size w' v (packL seq (wholeL L)) ∧ Below W.heap.size W w') := fun W u h => by
        have := pack_any seq (wholeL L) u W hseq (by omega) (fun x hx => maxLen_of (by rw [(wholeL_ok L x hx).2.2]; omega)) h
        rw [pk_whole seq L (by omega)] at this; exact this
      obtain ⟨ao, c, hv, _⟩ := hsl
      have hne0 : ((L.length : Int) == 0) = false := beq_eq_false_iff_ne.2 (by omega)
      generalize wholeL L = M at *
      generalize L.length = m at *
      subst hv
      clear hsm hel hlen h600 h0
      have CU : Hid (∀ W u j, j ≤ M.length → SlS W u ((packL seq M).take j) → Calls Try.prog 17 #[u] W fun e w' => ∃ v, e = .returned (.tuple #[.int .u64 0, v, .int .i64 7]) ∧ OwnW W.heap.size w' v [] ∧ Below W.heap.size W w') := fun W u j hj h => by
        have := unpack_any _ u W (by rw [List.length_take, packL_len]; omega) (fun d hd => maxLen_of (by rw [packL_sizes seq M hwl hwok d (List.mem_of_mem_take hd)]; omega)) h
        rw [unp_short seq M j hseq hwl1 hwl hwok hj] at this; exact this
      have HPS := Lib.hid (packL_succ seq M)
      have hp0 : (bs (topL seq M)).size = 256 := by rw [bs_len]; exact topL_len seq M hwl
      have HPL := Lib.hid (packL_len seq M)
      have HP0 := Lib.hid (packL_zero seq M)
      obtain ⟨j, hj, hpick⟩ := pick_nat at_ (M.length + 1) (by omega)
      have CPK : Hid (∀ W, Calls Try.prog 15 #[.int .i64 at_, .int .i64 ((M.length : Int) + 1)] W fun e w' => e = .returned (.int .i64 (j : Int)) ∧ W = w') := fun W => by
        have := pick_any at_ ((M.length : Int) + 1) W hat (by omega)
        have e : pickI at_ ((M.length : Int) + 1) = (j : Int) := by rw [← hpick]; simp
        rw [e] at this; exact this
      clear hpick hwok
      generalize packL seq M = pl at *
      generalize bs (topL seq M) = T at *
      obtain ⟨n, hn⟩ : ∃ n, M.length = n := ⟨_, rfl⟩
      rw [hn] at hwl hwl1 CU HPL hj CPK
      have HN := Lib.hid hn; clear hn
      go_enter Try.func7, Try.ntmps7
      go_wp2_with fail
      refine CS.out.mono ?_
      rintro e w1 ⟨rfl, hb1⟩
      have HB1 := Lib.hid hb1; clear hb1 CS
      go_wp2_with fail
      refine (CM.out _ HB1.out).mono ?_
      rintro e w2 ⟨rfl, rfl⟩
      go_wp2_with fail
      refine (CW.out _ HB1.out).mono ?_
      rintro e w3 ⟨u3, rfl, ho3, hb3⟩
      have HB3 := Lib.hid (HB1.out.trans (hb3.mono HB1.out.size))
      obtain ⟨g3, c3, hv3, _, _, hg3, hst3, _⟩ := ho3.here (by rw [HN.out]; omega)
      rw [HN.out] at hv3
      subst hv3
      have HO3 := Lib.hid ho3.sl
      have HW3 := Lib.hid hst3
      clear hb3 ho3 hst3 HB1 CW CM
      go_wp2_with fail
      refine (CP.out _ _ HO3.out).mono ?_
      rintro e w4 ⟨u4, rfl, ho4, hb4⟩
      have HB4 := Lib.hid (HB3.out.trans (hb4.mono HB3.out.size))
      have HW4 := Lib.hid (HW3.out.below hb4 hg3)
      obtain ⟨g, c4, hv4, hc4, hgg, hg4, hst4, _⟩ := ho4.here (by rw [HPL.out]; omega)
      rw [HPL.out] at hv4 hc4
      subst hv4
      have HS4 := Lib.hid hst4
      have q0 := hst4.at? HP0.out
      rw [Nat.add_zero] at q0
      clear hb4 ho4 hst4 HW3 HO3 CP HB3
      have hz : ((T.size : Int) != 256) = false := by simp; omega
      have hnn : ((n : Int) + 1 != 1 + (n : Int)) = false := by simp; omega
      go_wp2_with fail
      go_loopw [12] (fun i wr => ∃ k : Nat, k ≤ n ∧ i = .int .i64 k ∧ ∃ m, wr = w4.drewN m) (fun i _ => n - (intOf i).toNat)
      case atStart => exact ⟨0, Nat.zero_le _, rfl, 0, rfl⟩
      case round =>
        obtain ⟨k, hk, rfl, md, rfl⟩ := hrel
        by_cases hlt : k < n
        · have hkM : k < M.length := by rw [HN.out]; exact hlt
          have a1 := (HW4.out k hkM).2
          have a2 := HS4.out.at? (HPS.out k hkM)
          generalize M[k].2 = d at *
          rw [Nat.zero_add] at a1 a2
          have i1 : (k : Int) < (n : Int) := by omega
          have e1 : IntKind.i64.wrap (1 + (k : Int)) = ((k + 1 : Nat) : Int) := by rw [IntWalk.i64_in _ (by omega)]; omega
          have i2 : ((k + 1 : Nat) : Int) < (n : Int) + 1 := by omega
          go_wp2
          go_quiet (fail)
          go_wp2
          go_roundw
          case rel => exact ⟨k + 1, by omega, by go_num, _, rfl⟩
          case measure => simp [intOf]; omega
        · have i1 : ¬ (k : Int) < (n : Int) := by omega
          have HSL := Lib.hid (sl_taken HS4.out hg4 j (by rw [HPL.out]; omega) (by rw [HPL.out]; exact hc4))
          have HBD : Hid (Below w.heap.size w (w4.drewN md)) := below_drewN HB4.out _
          have HSD : Hid (SlS (w4.drewN md) (.slice (some ⟨g, 0, none⟩) j c4) (pl.take j)) := HSL.out.below (below_drewN (Below.refl _ _) _)
          clear HB4 HSL q0
          generalize w4.drewN md = w5 at *
          go_wp2_with fail
          refine (CPK.out _).mono ?_
          rintro e w6 ⟨rfl, rfl⟩
          have i2 : (j : Int) ≤ (c4 : Int) := by omega
          go_wp2_with fail
          refine (CU.out _ _ j (by omega) HSD.out).mono ?_
          rintro e w7 ⟨u7, rfl, ho7, hb7⟩
          have HB7 := Lib.hid (HBD.out.trans (hb7.mono HBD.out.size))
          obtain ⟨ao7, c7, hv7, _⟩ := ho7.sl
          simp only [List.length_nil] at hv7
          subst hv7
          clear ho7 hb7 HBD
          go_wp2
          go_ret
          exact ⟨rfl, HB7.out⟩
end Go.Proofs.Ytkailodeojbnhaa
