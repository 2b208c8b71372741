/- WireLengths answers true for every list of numbers, and changes nothing that was there: the walk. -/
import Derived.Test.YtojneafmdlohoaaWShown
import Derived.Test.YtojneafmdlohoaaWArgs
namespace Go.Proofs.Ytojneafmdlohoaa
open Go.RowKit

def cnt (y : Nat) : Nat := if y = 0 then 0 else (varL y).length
theorem cnt_step (y : Nat) (h : 0 < y) : cnt y = 1 + cnt (y / 128) := by
  unfold cnt
  rw [if_neg (by omega)]
  by_cases h2 : y < 128
  · rw [varL_lo y h2, if_pos (by omega)]; rfl
  · rw [varL_hi y (by omega), if_neg (by omega)]; simp; omega
theorem cnt_start (x : Nat) : (varL x).length = 1 + cnt (x / 128) := by
  unfold cnt
  by_cases h2 : x < 128
  · rw [varL_lo x h2, if_pos (by omega)]; rfl
  · rw [varL_hi x (by omega), if_neg (by omega)]; simp; omega
theorem varsL_drop (L : List Nat) (k : Nat) (h : k < L.length) : varsL (L.drop k) = varL L[k] ++ varsL (L.drop (k + 1)) := by
  rw [List.drop_eq_getElem_cons h]; rfl

set_option maxRecDepth 100000 in
set_option maxHeartbeats 1000000 in
theorem lens_empty (ao : Option Addr) (c : Nat) (w : World) :
    Calls Try.prog 8 #[.slice ao 0 c] w fun e w' => e = .returned (.bool true) ∧ Below w.heap.size w w' := by
  have K := Lib.hid fun W => toVar_no (s := ⟨#[]⟩) W (by unfold maxLen; decide) (by decide +kernel)
  have V := Lib.hid fun W => var_nil W ao c
  rw [show bs [] = ⟨#[]⟩ from rfl] at V
  go_enter Try.func8, Try.ntmps8
  go_wp2_with fail
  refine (wshown_any _).mono ?_
  rintro e w1 ⟨rfl, hb1⟩
  have H1 := Lib.hid hb1; clear hb1
  go_wp2_with fail
  refine (V.out _).mono ?_
  rintro e w2 ⟨rfl, hb1⟩
  have H2 := Lib.hid (below_next H1.out (Nat.le_refl _) hb1); clear hb1 H1
  go_wp2
  go_loopw [4, 5] (fun s i wr => s = .string ⟨#[]⟩ ∧ i = .int .i64 0 ∧ w2 = wr) (fun _ _ _ => 0)
  case atStart => exact ⟨rfl, rfl, rfl⟩
  case round =>
    obtain ⟨rfl, rfl, rfl⟩ := hrel
    go_wp2_with fail
    refine (K.out _).mono ?_
    rintro e w3 ⟨rfl, hb1⟩
    have H3 := Lib.hid (below_next H2.out (Nat.le_refl _) hb1); clear hb1 H2
    go_wp2
    go_ret
    exact ⟨rfl, H3.out⟩

set_option maxRecDepth 100000 in
set_option maxHeartbeats 1000000 in
theorem lens_long (ao : Option Addr) (n c : Nat) (w : World) (h : 200 < n) :
    Calls Try.prog 8 #[.slice ao n c] w fun e w' => e = .returned (.bool true) ∧ Below w.heap.size w w' := by
  go_enter Try.func8, Try.ntmps8
  go_wp2_with fail
  refine (wshown_any _).mono ?_
  rintro e w1 ⟨rfl, hb1⟩
  have H1 := Lib.hid hb1; clear hb1
  go_wp2
  go_ret
  exact ⟨rfl, H1.out⟩

set_option maxRecDepth 100000 in
set_option maxHeartbeats 2000000 in
theorem lens_some (L : List Nat) (b off c : Nat) (w : World) (hn : L.length ≤ 200) (hL : ∀ x ∈ L, x < 18446744073709551616) (hbw : b < w.heap.size)
    (hc : ∀ j (h : j < L.length), w.cell? ⟨b, off + j, none⟩ = some (.int .u64 (L[j] : Int))) :
    Calls Try.prog 8 #[.slice (some ⟨b, off, none⟩) L.length c] w fun e w' => e = .returned (.bool true) ∧ Below w.heap.size w w' := by
  have HC : Hid (∀ W, Below w.heap.size w W → ∀ j (h : j < L.length), W.cell? ⟨b, off + j, none⟩ = some (.int .u64 (L[j] : Int))) := fun W hW j hj => by
    rw [hW.cell (p := ⟨b, off + j, none⟩) hbw]; exact hc j hj
  have HL := Lib.hid hL; clear hL hc
  go_enter Try.func8, Try.ntmps8
  go_wp2_with fail
  refine (wshown_any _).mono ?_
  rintro e w1 ⟨rfl, hb1⟩
  have H1 := Lib.hid hb1; clear hb1
  have hbw1 : b < w1.heap.size := Nat.lt_of_lt_of_le hbw H1.out.size
  have V := Lib.hid (var_some L b off c w1 (by omega) HL.out hbw1 (HC.out w1 H1.out))
  clear hbw1
  go_wp2_with fail
  refine V.out.mono ?_
  rintro e w2 ⟨rfl, hb1⟩
  have H2 := Lib.hid (below_next H1.out (Nat.le_refl _) hb1); clear hb1 H1 V
  go_wp2
  go_loopw [4, 5] (fun s i wr => ∃ k : Nat, k ≤ L.length ∧ i = .int .i64 k ∧ s = .string (bs (varsL (L.drop k))) ∧ Hid (Below w.heap.size w wr)) (fun _ i _ => L.length - (intOf i).toNat)
  case atStart => exact ⟨0, Nat.zero_le _, rfl, rfl, H2⟩
  case round =>
    clear H2
    obtain ⟨k, hk, rfl, rfl, HB⟩ := hrel
    by_cases hlt : k < L.length
    · have hcell := HC.out wr HB.out k hlt
      have hxl := HL.out L[k] (List.getElem_mem hlt)
      have HD := Lib.hid (varsL_drop L k hlt)
      have HLen : Hid ((varsL (L.drop k)).length ≤ 2000) := by
        have := varsL_len (L.drop k) (fun x hx => HL.out x (List.mem_of_mem_drop hx))
        rw [List.length_drop] at this; show _ ≤ _; omega
      have HC2 : Hid (∀ W, Below w.heap.size w W → W.cell? ⟨b, off + k, none⟩ = some (.int .u64 (L[k] : Int))) := fun W hW => HC.out W hW k hlt
      obtain ⟨x, hx⟩ : ∃ x, L[k] = x := ⟨_, rfl⟩
      rw [hx] at hcell hxl HD HC2
      clear hx
      have HT := Lib.hid (varL_ten x hxl)
      have HS := Lib.hid (cnt_start x)
      go_wp2
      go_loop [6, 7] (fun n v => ∃ m y : Nat, m ≤ 10 ∧ n = .int .i64 (m : Int) ∧ v = .int .u64 (y : Int) ∧ y < 18446744073709551616 ∧ Hid ((varL x).length = m + cnt y)) (fun _ v => (intOf v).toNat)
      case atStart => exact ⟨1, x / 128, by omega, rfl, by go_num, by omega, HS⟩
      case round =>
        obtain ⟨m, y, hm, rfl, rfl, hy, HM⟩ := hrel
        by_cases hy0 : 0 < y
        · have hcs := cnt_step y hy0
          have HM2 : Hid ((varL x).length = m + 1 + cnt (y / 128)) := by show _ = _; rw [HM.out, hcs]; omega
          have hm2 : m + 1 ≤ 10 := by have := HM2.out; have := HT.out; omega
          clear hcs
          go_wp2
          go_round
          case rel => exact ⟨m + 1, y / 128, hm2, by go_num, by go_num, by omega, HM2⟩
          case measure => simp [intOf]; omega
        · have hy00 : y = 0 := by omega
          subst hy00
          have hXs : (bs (varL x)).size = m := by rw [bs_size, HM.out]; simp [cnt]
          have hR1 : (bs (varsL (L.drop (k + 1)))).size + m = (bs (varsL (L.drop k))).size := by rw [bs_size, bs_size, HD.out, List.length_append, HM.out]; simp [cnt]; omega
          have hS1 : (bs (varsL (L.drop k))).size ≤ 2000 := by rw [bs_size]; exact HLen.out
          have C := Lib.hid (var_one x hxl wr)
          have K := Lib.hid fun W => toVar_yes (s := bs (varsL (L.drop k))) (v := x) (r := varsL (L.drop (k + 1))) W (by unfold maxLen; omega) (by show rdV (varsL (L.drop k)) = _; rw [HD.out, rdV_varL x _ hxl])
          have hne : (((bs (varsL (L.drop (k + 1)))).size : Int) != ((bs (varsL (L.drop k))).size : Int) - (m : Int)) = false := by simp; omega
          clear HM HT HS HD HLen hR1
          obtain ⟨R, hR⟩ : ∃ R, bs (varsL (L.drop (k + 1))) = R := ⟨_, rfl⟩
          rw [hR] at K hne
          have HR := Lib.hid hR; clear hR
          generalize bs (varsL (L.drop k)) = S at *
          generalize bs (varL x) = X at *
          go_wp2_with fail
          refine C.out.mono ?_
          rintro e w3 ⟨rfl, hb1⟩
          have H3 := Lib.hid (below_next HB.out (Nat.le_refl _) hb1); clear hb1 HB C
          go_wp2_with fail
          refine (K.out _).mono ?_
          rintro e w4 ⟨rfl, hb1⟩
          have H4 := Lib.hid (below_next H3.out (Nat.le_refl _) hb1); clear hb1 H3 K
          have hcell4 := HC2.out w4 H4.out
          go_wp2
          go_roundw
          case rel => exact ⟨k + 1, by omega, by go_num, by rw [HR.out], H4⟩
          case measure => simp [intOf]; omega
    · have hE : bs (varsL (L.drop k)) = ⟨#[]⟩ := by rw [List.drop_of_length_le (by omega)]; rfl
      rw [hE]
      clear hE
      have K := Lib.hid fun W => toVar_no (s := ⟨#[]⟩) W (by unfold maxLen; decide) (by decide +kernel)
      go_wp2_with fail
      refine (K.out _).mono ?_
      rintro e w3 ⟨rfl, hb1⟩
      have H3 := Lib.hid (below_next HB.out (Nat.le_refl _) hb1); clear hb1 HB
      go_wp2
      go_ret
      exact ⟨rfl, H3.out⟩

theorem lens_any (v : Value) (L : List Nat) (w : World) (h : NumsA w v L) :
    Calls Try.prog 8 #[v] w fun e w' => e = .returned (.bool true) ∧ Below w.heap.size w w' := by
  obtain ⟨ao, c, rfl, hL, h0 | ⟨b, off, rfl, hb, hc⟩⟩ := h
  · subst h0; exact lens_empty ao c w
  · by_cases hn : L.length ≤ 200
    · exact lens_some L b off c w hn hL hb hc
    · exact lens_long _ _ c w (by omega)
end Go.Proofs.Ytojneafmdlohoaa
