/- What check answers: why writes cannot be packed. -/
import Derived.Test.YtodfcbpimglhdaaFBase
namespace Go.Proofs.Ytodfcbpimglhdaa.Fr
open Go.RowKit

set_option maxRecDepth 100000 in
set_option maxHeartbeats 1000000 in
theorem check_many (ao : Option Addr) (n c : Nat) (w : World) (h : n = 0 ∨ 48 < n) (hm : n ≤ 1000) :
    Calls Try.prog 85 #[.slice ao n c] w fun e w' => e = .returned (.int .i64 6) ∧ Below w.heap.size w w' := by
  rcases h with rfl | h
  · go_enter Try.func85, Try.ntmps85
    go_wp2
    go_ret
    exact ⟨rfl, Below.refl _ _⟩
  · have h0 : ((n : Int) == 0) = false := beq_eq_false_iff_ne.2 (by omega)
    have h1 : (48 : Int) < (n : Int) := by omega
    go_enter Try.func85, Try.ntmps85
    go_wp2
    go_ret
    exact ⟨rfl, Below.refl _ _⟩

set_option maxRecDepth 100000 in
set_option maxHeartbeats 1000000 in
theorem check_some (L : List (Int × ByteArray)) (b off c : Nat) (w : World) (h1 : 1 ≤ L.length) (h2 : L.length ≤ 48) (hs : ∀ x ∈ L, x.2.size ≤ maxLen) (hb : b < w.heap.size) (hc : WritesAt w b off L) :
    Calls Try.prog 85 #[.slice (some ⟨b, off, none⟩) L.length c] w fun e w' => e = .returned (.int .i64 ((chkL L : Nat) : Int)) ∧ Below w.heap.size w w' := by
  have HC := Lib.hid hc; clear hc
  have HS := Lib.hid hs; clear hs
  obtain ⟨n, hn⟩ : ∃ n, L.length = n := ⟨_, rfl⟩
  rw [hn] at h1 h2 ⊢
  have HN := Lib.hid hn; clear hn
  have h0 : ((n : Int) == 0) = false := beq_eq_false_iff_ne.2 (by omega)
  have h3 : ¬ (48 : Int) < (n : Int) := by omega
  go_enter Try.func85, Try.ntmps85
  go_wp2
  go_loopw [15] (fun i wr => ∃ k : Nat, k ≤ n ∧ i = .int .i64 k ∧ Hid (chkL L = chkL (L.drop k)) ∧ Hid (Below w.heap.size w wr)) (fun i _ => n - (intOf i).toNat)
  case atStart => exact ⟨0, Nat.zero_le _, rfl, rfl, Below.refl _ _⟩
  case round =>
    obtain ⟨k, hk, rfl, HK, HB⟩ := hrel
    have hbr := HB.out.size
    by_cases hlt : k < n
    · have hkL : k < L.length := by rw [HN.out]; exact hlt
      obtain ⟨c0, c1⟩ := (HC.out.below HB.out hb) k hkL
      have hsz := HS.out L[k] (List.getElem_mem hkL)
      unfold maxLen at hsz
      by_cases hx : chk1 L[k] = 0
      · obtain ⟨x0, x1, x2⟩ := (chk1_ok _).1 hx
        have HK2 : Hid (chkL L = chkL (L.drop (k + 1))) := by show _ = _; rw [HK.out, chkL_drop L k hkL hx]
        clear hx
        generalize L[k] = p at *
        obtain ⟨pb, pd⟩ := p
        simp only at c0 c1 x0 x1 x2 hsz
        have hne : ((pd.size : Int) != 256) = false := by simp; omega
        have hge : ¬ (4096 : Int) ≤ pb := by omega
        have hlt0 : ¬ pb < 0 := by omega
        clear x0 x1 x2
        go_wp2
        go_roundw
        case rel => exact ⟨k + 1, by omega, by go_num, HK2, (HB.out.alloc hbr _)⟩
        case measure => simp [intOf]; omega
      · have HE := Lib.hid (show chkL L = chk1 L[k] by rw [HK.out, chkL_at L k hkL hx])
        generalize L[k] = p at *
        obtain ⟨pb, pd⟩ := p
        simp only at c0 c1 hsz
        unfold chk1 at hx HE
        simp only at hx HE
        by_cases hr : pb < 0 ∨ 4096 ≤ pb
        · rw [if_pos hr] at HE
          clear hx
          rcases hr with hr | hr
          · go_wp2
            go_ret
            exact ⟨by rw [HE.out]; rfl, HB.out.alloc hbr _⟩
          · have hlt0 : ¬ pb < 0 := by omega
            go_wp2
            go_ret
            exact ⟨by rw [HE.out]; rfl, HB.out.alloc hbr _⟩
        · rw [if_neg hr] at hx HE
          have hge : ¬ (4096 : Int) ≤ pb := by omega
          have hlt0 : ¬ pb < 0 := by omega
          clear hr
          by_cases hz : pd.size ≠ 256
          · rw [if_pos hz] at HE
            clear hx
            have hne : ((pd.size : Int) != 256) = true := by simp; omega
            clear hz
            go_wp2
            go_ret
            exact ⟨by rw [HE.out]; rfl, HB.out.alloc hbr _⟩
          · rw [if_neg hz] at hx; exact absurd rfl hx
    · have hkn : k = n := by omega
      subst hkn
      have HE : Hid (chkL L = 0) := by show _ = _; rw [HK.out, List.drop_of_length_le (by rw [HN.out]; exact Nat.le_refl _)]; rfl
      go_wp2
      go_ret
      exact ⟨by rw [HE.out]; rfl, HB.out⟩

theorem check_any (L : List (Int × ByteArray)) (v : Value) (w : World) (hl : L.length ≤ 1000) (hs : ∀ x ∈ L, x.2.size ≤ maxLen) (h : SlW w v L) :
    Calls Try.prog 85 #[v] w fun e w' => e = .returned (.int .i64 ((chk L : Nat) : Int)) ∧ Below w.heap.size w w' := by
  unfold chk
  by_cases h0 : L.length = 0 ∨ 48 < L.length
  · rw [if_pos h0]
    obtain ⟨ao, c, rfl, _⟩ := h
    exact check_many ao _ c w h0 hl
  · rw [if_neg h0]
    obtain ⟨b, off, c, rfl, _, hb, hc⟩ := h.here (by omega)
    exact check_some L b off c w (by omega) (by omega) hs hb hc
end Go.Proofs.Ytodfcbpimglhdaa.Fr
