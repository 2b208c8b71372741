/- The document's own Fit; whether two rows of extents are the same. -/
import Derived.Test.YtlhhmdpfggefgaaMRuns2
namespace Go.Proofs.Ytlhhmdpfggefgaa
open Go.RowKit

theorem runs_small (l : List UInt8) (m : Nat) (j : Nat) (h : j < (rs l m).length) : (rs l m)[j].1 ≤ m ∧ (rs l m)[j].2 ≤ m := by
  have H : ∀ (R : List (Nat × Nat)) (e : Int), RO l m e R → ∀ x ∈ R, x.1 ≤ m ∧ x.2 ≤ m := by
    intro R
    induction R with
    | nil => intro e _ x hx; cases hx
    | cons y R ih =>
      rintro e ⟨h1, h2, h3, h4, h5, h6, h7, h8⟩ x hx
      rcases List.mem_cons.1 hx with rfl | hx
      · omega
      · exact ih _ h8 x hx
  exact H _ _ (rs_ok l m) _ (List.getElem_mem h)
set_option maxRecDepth 100000 in
set_option maxHeartbeats 2000000 in
theorem rfit_any (s : ByteArray) (n c : Int) (w : World) (hs : s.size ≤ 1000000) (hn : -9223372036854775808 ≤ n ∧ n ≤ 9223372036854775807) (hc : -9223372036854775808 ≤ c ∧ c ≤ 9223372036854775807) :
    Calls Try.prog 17 #[.string s, .int .i64 n, .int .i64 c] w fun e w' => e = .returned (fitV (fit s.data.toList (fi s.size n) c.toNat)) ∧ Below w.heap.size w w' := by
  have hm := fi_le s.size n
  have HF := Lib.hid (rruns_any s n w hs hn)
  obtain ⟨l, hl⟩ : ∃ l, s.data.toList = l := ⟨_, rfl⟩
  rw [hl] at HF ⊢
  clear hl
  generalize fi s.size n = m at *
  have hsm := Lib.hid (runs_small l m)
  have HSt := Lib.hid (Short.start l m c.toNat)
  have hlen := rs_len l m
  obtain ⟨R, hR⟩ : ∃ R, rs l m = R := ⟨_, rfl⟩
  rw [hR] at HF HSt hlen
  have HSM : Hid (∀ j (h : j < R.length), R[j].1 ≤ m ∧ R[j].2 ≤ m) := by subst hR; exact hsm.out
  clear hR hsm
  go_enter Try.func17, Try.ntmps17
  go_wp2_with fail
  refine HF.out.mono ?_
  rintro e w1 ⟨v, rfl, hsl, hbel⟩
  have HB := Lib.hid hbel; clear hbel
  have HS := Lib.hid hsl
  clear HF
  obtain ⟨ao, cp, rfl, _⟩ := hsl
  go_wp2
  go_loop [9] (fun t => ∃ j : Nat, j ≤ R.length ∧ t = .int .i64 j ∧ Hid (Short l m c.toNat (R.drop j))) (fun t => R.length - (intOf t).toNat)
  case atStart => exact ⟨0, Nat.zero_le _, rfl, by show Short _ _ _ _; rw [List.drop_zero]; exact HSt.out⟩
  case round =>
    obtain ⟨j, hj, rfl, HD⟩ := hrel
    by_cases hlt : j < R.length
    · by_cases h0 : 0 < c
      · have HD' := HD.out
        rw [List.drop_eq_getElem_cons hlt] at HD'
        have HD2 := Lib.hid HD'; clear HD'
        obtain ⟨b, off, cp', hv, hb, hat⟩ := HS.out.here (by omega)
        simp only [Value.slice.injEq] at hv
        obtain ⟨rfl, _, rfl⟩ := hv
        obtain ⟨hc1, hc2⟩ := hat j hlt
        obtain ⟨hx1, hx2⟩ := HSM.out j hlt
        obtain ⟨x, hx⟩ : ∃ x, R[j] = x := ⟨_, rfl⟩
        rw [hx] at HD2 hc1 hc2 hx1 hx2
        obtain ⟨x1, x2⟩ := x
        simp only at hc1 hc2 hx1 hx2
        clear hx hat
        by_cases hle : c ≤ (x2 : Int)
        · have HE := Lib.hid (HD2.out.found (by show c.toNat ≤ x2; omega) (by omega))
          go_wp2
          go_ret2
          exact ⟨fitV_some HE.out rfl, HB.out⟩
        · have HE := Lib.hid (HD2.out.step (by show x2 < c.toNat; omega))
          go_wp2
          go_round
          case rel => exact ⟨j + 1, by omega, by go_num, HE⟩
          case measure => simp [intOf]; omega
      · have HE : Hid (c.toNat = 0) := by show _ = _; omega
        go_wp2
        go_ret2
        exact ⟨by rw [HE.out]; exact fitV_none (fit_zero _ _), HB.out⟩
    · obtain rfl : j = R.length := by omega
      have HE : Hid (fit l m c.toNat = none) := by
        have := HD.out
        rw [List.drop_length] at this
        exact this.none
      go_wp2
      go_ret2
      exact ⟨fitV_none HE.out, HB.out⟩
set_option maxRecDepth 100000 in
set_option maxHeartbeats 2000000 in
theorem same_yes (v1 v2 : Value) (R : List (Nat × Nat)) (w : World) (hl : R.length ≤ 10000000) (h1 : SlX w v1 R) (h2 : SlX w v2 R) :
    Calls Try.prog 20 #[v1, v2] w fun e w' => e = .returned (.bool true) ∧ Below w.heap.size w w' := by
  have H1 := Lib.hid h1
  have H2 := Lib.hid h2
  obtain ⟨a1, c1, rfl, _⟩ := h1
  obtain ⟨a2, c2, rfl, _⟩ := h2
  go_enter Try.func20, Try.ntmps20
  go_wp2
  go_loopw [5] (fun t wr => ∃ j : Nat, j ≤ R.length ∧ t = .int .i64 j ∧ Hid (∃ q, wr = w.drewN q)) (fun t _ => R.length - (intOf t).toNat)
  case atStart => exact ⟨0, Nat.zero_le _, rfl, 0, rfl⟩
  case round =>
    obtain ⟨j, hj, rfl, HD⟩ := hrel
    obtain ⟨q, rfl⟩ := HD.out
    by_cases hlt : j < R.length
    · obtain ⟨b, off, cp', hv, hb, hat⟩ := H1.out.here (by omega)
      simp only [Value.slice.injEq] at hv
      obtain ⟨rfl, _, rfl⟩ := hv
      obtain ⟨b', off', cp2, hv, hb', hat'⟩ := H2.out.here (by omega)
      simp only [Value.slice.injEq] at hv
      obtain ⟨rfl, _, rfl⟩ := hv
      obtain ⟨hc1, hc2⟩ := hat j hlt
      obtain ⟨hc3, hc4⟩ := hat' j hlt
      obtain ⟨x, hx⟩ : ∃ x, R[j] = x := ⟨_, rfl⟩
      rw [hx] at hc1 hc2 hc3 hc4
      obtain ⟨x1, x2⟩ := x
      simp only at hc1 hc2 hc3 hc4
      clear hx hat hat'
      go_wp2
      go_quiet (fail)
      go_wp2
      go_roundw
      case rel => exact ⟨j + 1, by omega, by go_num, _, rfl⟩
      case measure => simp [intOf]; omega
    · obtain rfl : j = R.length := by omega
      go_wp2
      go_ret
      exact ⟨rfl, below_drewN (Below.refl _ _) _⟩
end Go.Proofs.Ytlhhmdpfggefgaa
