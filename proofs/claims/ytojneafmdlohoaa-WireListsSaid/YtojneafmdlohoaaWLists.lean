/- WireLists answers true for every list of texts, and changes nothing that was there: the walk. -/
import Derived.Test.YtojneafmdlohoaaWShown
import Derived.Test.YtojneafmdlohoaaWArgs
namespace Go.Proofs.Ytojneafmdlohoaa
open Go.RowKit

theorem textsL_drop (L : List ByteArray) (k : Nat) (h : k < L.length) : textsL (L.drop k) = textL L[k].data.toList ++ textsL (L.drop (k + 1)) := by
  rw [List.drop_eq_getElem_cons h]; rfl

set_option maxRecDepth 100000 in
set_option maxHeartbeats 1000000 in
theorem lists_empty (ao : Option Addr) (c : Nat) (w : World) :
    Calls Try.prog 9 #[.slice ao 0 c] w fun e w' => e = .returned (.bool true) ∧ Below w.heap.size w w' := by
  have V := Lib.hid fun W => text_nil W ao c
  rw [show bs [] = ⟨#[]⟩ from rfl] at V
  go_enter Try.func9, Try.ntmps9
  go_wp2_with fail
  refine (wshown_any _).mono ?_
  rintro e w1 ⟨rfl, hb1⟩
  have H1 := Lib.hid hb1; clear hb1
  go_wp2
  go_loopw [4] (fun i wr => i = .int .i64 0 ∧ w1 = wr) (fun _ _ => 0)
  case atStart => exact ⟨rfl, rfl⟩
  case round =>
    obtain ⟨rfl, rfl⟩ := hrel
    go_wp2_with fail
    refine (V.out _).mono ?_
    rintro e w2 ⟨rfl, hb1⟩
    have H2 := Lib.hid (below_next H1.out (Nat.le_refl _) hb1); clear hb1 H1
    go_wp2
    go_loopw [5, 6] (fun s i wr => s = .string ⟨#[]⟩ ∧ i = .int .i64 0 ∧ w2 = wr) (fun _ _ _ => 0)
    case atStart => exact ⟨rfl, rfl, rfl⟩
    case round =>
      obtain ⟨rfl, rfl, rfl⟩ := hrel
      go_wp2
      go_ret
      exact ⟨rfl, H2.out⟩

set_option maxRecDepth 100000 in
set_option maxHeartbeats 1000000 in
theorem lists_long (ao : Option Addr) (n c : Nat) (w : World) (h : 60 < n) :
    Calls Try.prog 9 #[.slice ao n c] w fun e w' => e = .returned (.bool true) ∧ Below w.heap.size w w' := by
  go_enter Try.func9, Try.ntmps9
  go_wp2_with fail
  refine (wshown_any _).mono ?_
  rintro e w1 ⟨rfl, hb1⟩
  have H1 := Lib.hid hb1; clear hb1
  go_wp2
  go_ret
  exact ⟨rfl, H1.out⟩

set_option maxRecDepth 100000 in
set_option maxHeartbeats 2000000 in
theorem lists_some (L : List ByteArray) (b off c : Nat) (w : World) (hn : L.length ≤ 60) (hL : ∀ x ∈ L, x.size ≤ maxLen) (hbw : b < w.heap.size)
    (hc : ∀ j (h : j < L.length), w.cell? ⟨b, off + j, none⟩ = some (.string L[j])) :
    Calls Try.prog 9 #[.slice (some ⟨b, off, none⟩) L.length c] w fun e w' => e = .returned (.bool true) ∧ Below w.heap.size w w' := by
  have HC : Hid (∀ W, Below w.heap.size w W → ∀ j (h : j < L.length), W.cell? ⟨b, off + j, none⟩ = some (.string L[j])) := fun W hW j hj => by
    rw [hW.cell (p := ⟨b, off + j, none⟩) hbw]; exact hc j hj
  have HL := Lib.hid hL; clear hL hc
  go_enter Try.func9, Try.ntmps9
  go_wp2_with fail
  refine (wshown_any _).mono ?_
  rintro e w1 ⟨rfl, hb1⟩
  have H1 := Lib.hid hb1; clear hb1
  have hbw1 : b < w1.heap.size := Nat.lt_of_lt_of_le hbw H1.out.size
  go_wp2
  go_loopw [4] (fun i wr => ∃ k : Nat, k ≤ L.length ∧ i = .int .i64 k ∧ Hid (∀ j (h : j < L.length), j < k → (L[j]).size ≤ 1000) ∧ w1 = wr) (fun i _ => L.length - (intOf i).toNat)
  case atStart => exact ⟨0, Nat.zero_le _, rfl, (fun j _ h => by omega), rfl⟩
  case round =>
    obtain ⟨k, hk, rfl, HK, rfl⟩ := hrel
    by_cases hlt : k < L.length
    · have hcell := HC.out w1 H1.out k hlt
      have hxl := HL.out L[k] (List.getElem_mem hlt)
      unfold maxLen at hxl
      have HK2 : Hid ((L[k]).size ≤ 1000 → ∀ j (h : j < L.length), j < k + 1 → (L[j]).size ≤ 1000) := fun hx j hj hjk => by
        by_cases e : j = k
        · subst e; exact hx
        · exact HK.out j hj (by omega)
      obtain ⟨x, hx⟩ : ∃ x, L[k] = x := ⟨_, rfl⟩
      rw [hx] at hcell hxl HK2
      clear hx
      by_cases hx : x.size ≤ 1000
      · go_wp2
        go_roundw
        case rel => exact ⟨k + 1, by omega, by go_num, HK2.out hx, trivial⟩
        case measure => simp [intOf]; omega
      · go_wp2
        go_ret
        exact ⟨rfl, H1.out⟩
    · have HA : Hid (∀ x ∈ L, x.size ≤ 1000) := fun x hx => by
        obtain ⟨j, hj, rfl⟩ := List.getElem_of_mem hx
        exact HK.out j hj (by omega)
      have V := Lib.hid (text_some L b off c w1 (by omega) (fun x hx => Nat.le_trans (HA.out x hx) (by omega)) hbw1 (HC.out w1 H1.out))
      clear hbw1 HK
      go_wp2_with fail
      refine V.out.mono ?_
      rintro e w2 ⟨rfl, hb1⟩
      have H2 := Lib.hid (below_next H1.out (Nat.le_refl _) hb1); clear hb1 H1 V
      go_wp2
      go_loopw [5, 6] (fun s i wr => ∃ q : Nat, q ≤ L.length ∧ i = .int .i64 q ∧ s = .string (bs (textsL (L.drop q))) ∧ Hid (Below w.heap.size w wr)) (fun _ i _ => L.length - (intOf i).toNat)
      case atStart => exact ⟨0, Nat.zero_le _, rfl, rfl, H2⟩
      case round =>
        clear H2
        obtain ⟨q, hq, rfl, rfl, HB⟩ := hrel
        by_cases hql : q < L.length
        · have HD := Lib.hid (textsL_drop L q hql)
          have HLen : Hid ((textsL (L.drop q)).length ≤ 100000000) := by
            have := textsL_len (L.drop q) (fun x hx => Nat.le_trans (HA.out x (List.mem_of_mem_drop hx)) (by omega))
            rw [List.length_drop] at this; show _ ≤ _; omega
          have HC2 : Hid (∀ W, Below w.heap.size w W → W.cell? ⟨b, off + q, none⟩ = some (.string L[q])) := fun W hW => HC.out W hW q hql
          have hxl := HA.out L[q] (List.getElem_mem hql)
          obtain ⟨x, hx⟩ : ∃ x, L[q] = x := ⟨_, rfl⟩
          rw [hx] at hxl HD HC2
          clear hx
          have K := Lib.hid fun W => toText_yes (s := bs (textsL (L.drop q))) (t := x.data.toList) (r := textsL (L.drop (q + 1))) W (by rw [bs_size]; unfold maxLen; have := HLen.out; omega) (by show rdT (textsL (L.drop q)) = _; rw [HD.out, rdT_textL _ _ (by rw [str_len]; omega)])
          rw [bs_self] at K
          clear HD HLen hxl
          obtain ⟨R, hR⟩ : ∃ R, bs (textsL (L.drop (q + 1))) = R := ⟨_, rfl⟩
          rw [hR] at K
          have HR := Lib.hid hR; clear hR
          generalize bs (textsL (L.drop q)) = S at *
          go_wp2_with fail
          refine (K.out _).mono ?_
          rintro e w4 ⟨rfl, hb1⟩
          have H4 := Lib.hid (below_next HB.out (Nat.le_refl _) hb1); clear hb1 HB K
          have hcell4 := HC2.out w4 H4.out
          go_wp2
          go_roundw
          case rel => exact ⟨q + 1, by omega, by go_num, by rw [HR.out], H4⟩
          case measure => simp [intOf]; omega
        · have hE : bs (textsL (L.drop q)) = ⟨#[]⟩ := by rw [List.drop_of_length_le (by omega)]; rfl
          rw [hE]
          clear hE
          go_wp2
          go_ret
          exact ⟨rfl, HB.out⟩

theorem lists_any (v : Value) (L : List ByteArray) (w : World) (h : StrsA w v L) :
    Calls Try.prog 9 #[v] w fun e w' => e = .returned (.bool true) ∧ Below w.heap.size w w' := by
  obtain ⟨ao, c, rfl, _, hL, h0 | ⟨b, off, rfl, hb, hc⟩⟩ := h
  · subst h0; exact lists_empty ao c w
  · by_cases hn : L.length ≤ 60
    · exact lists_some L b off c w hn hL hb hc
    · exact lists_long _ _ c w (by omega)
end Go.Proofs.Ytojneafmdlohoaa
