/- UtfKinds, UtfFolds, UtfKeeps, UtfBytes: the walks. -/
import Derived.Test.YtbmpnakhaeaneaaDoorUShown
namespace Go.Proofs.YtbmpnakhaeaneaaDoor
open Go.RowKit

theorem foldI_keep (r : Int) : foldI (foldI r) = foldI r ∧ kindI (foldI r) = kindI r := by
  by_cases h : 0 ≤ r ∧ r < 1536
  · obtain ⟨k, rfl⟩ := Int.eq_ofNat_of_zero_le h.1
    have a : ∀ k : Fin 1536, foldI (foldI (k.1 : Int)) = foldI (k.1 : Int) ∧ kindI (foldI (k.1 : Int)) = kindI (k.1 : Int) := by decide +kernel
    exact a ⟨k, by omega⟩
  · have e : foldI r = r := by
      unfold foldI
      rw [if_neg (by omega), if_neg (by omega), if_neg (by omega), if_neg (by omega), if_neg (by omega), if_neg (by omega)]
    rw [e, e]; exact ⟨rfl, rfl⟩
theorem foldI_int {r : Int} (h : -9223372036854775808 ≤ r ∧ r ≤ 9223372036854775807) : -9223372036854775808 ≤ foldI r ∧ foldI r ≤ 9223372036854775807 := by
  unfold foldI
  split
  · omega
  split
  · omega
  split
  · omega
  split
  · omega
  split
  · omega
  split <;> omega
theorem folded_len (L : List UInt8) : (foldedL L).length ≤ 4 * L.length := by
  suffices h : ∀ k (L : List UInt8), L.length ≤ k → (foldedL L).length ≤ 4 * L.length from h _ L (Nat.le_refl _)
  intro k
  induction k with
  | zero => intro L h; rw [List.length_eq_zero_iff.1 (show L.length = 0 by omega)]; exact Nat.le_refl _
  | succ k ih =>
    intro L h
    by_cases hL : L = []
    · subst hL; exact Nat.le_refl _
    · have hp := rune_pos hL
      have i1 := ih (L.drop (runeL L).2) (by rw [List.length_drop]; omega)
      rw [folded_step hL, List.length_append]
      rw [List.length_drop] at i1
      have : (if (runeL L).1 < 0 then L.take 1 else byts (foldR (runeL L).1.toNat)).length ≤ 4 := by
        split
        · rw [List.length_take]; omega
        · rw [byts_len]; split; omega; split; omega; split <;> omega
      omega

set_option maxRecDepth 100000 in
set_option maxHeartbeats 2000000 in
theorem kinds_walk (r : Int) (s : ByteArray) (w : World) (hT : Tabs w) (hr : -9223372036854775808 ≤ r ∧ r ≤ 9223372036854775807) (hs : s.size ≤ maxLen) : Calls Tryd.prog 4 #[.int .i64 r, .string s] w fun e w' => e = .returned (.bool true) ∧ Below w.heap.size w w' := by
  have HT := Lib.hid hT
  clear hT
  have CS := Lib.hid (shown10_any w HT.out)
  unfold maxLen at hs
  by_cases h1 : s.size ≤ 1000
  · have K1 := Lib.hid (fun W hbW => pkind_any r W (HT.out.below hbW) hr)
    have K2 : Hid (∀ W, Calls Tryd.prog 16 #[.int .i64 r] W fun e w' => e = .returned (.int .i64 (kindI r : Nat)) ∧ W = w') := fun W => kind_any r W
    have F1 := Lib.hid (fun W hbW => pfold_any r W (HT.out.below hbW) hr)
    have F2 : Hid (∀ W, Calls Tryd.prog 18 #[.int .i64 r] W fun e w' => e = .returned (.int .i64 (foldI r)) ∧ W = w') := fun W => fold_any r W hr
    have A1 := Lib.hid (fun W => pappend_any s r W (by omega) hr)
    have A2 := Lib.hid (fun W => xappend_any s r W (by omega) hr)
    generalize utxt (appL s.data.toList r) = X at *
    generalize foldI r = f at *
    generalize kindI r = k at *
    have hx : (X.toList == X.toList) = true := by simp
    go_enter Tryd.func4, Tryd.ntmps4
    go_wp2_with fail
    refine CS.out.mono ?_
    rintro e w1 ⟨rfl, hb⟩
    have H1 := Lib.hid hb
    have z1 := H1.out.size
    clear hb
    go_wp2_with fail
    refine (K1.out _ H1.out).mono ?_
    rintro e w2 ⟨rfl, hb⟩
    have H2 := Lib.hid (below_nextU H1.out z1 hb)
    have z2 := H2.out.size
    clear hb
    go_wp2_with fail
    refine (K2.out _).mono ?_
    rintro e w2' ⟨rfl, rfl⟩
    go_wp2_with fail
    refine (F1.out _ H2.out).mono ?_
    rintro e w3 ⟨rfl, hb⟩
    have H3 := Lib.hid (below_nextU H2.out z2 hb)
    have z3 := H3.out.size
    clear hb
    go_wp2_with fail
    refine (F2.out _).mono ?_
    rintro e w3' ⟨rfl, rfl⟩
    go_wp2_with fail
    refine (A1.out _).mono ?_
    rintro e w4 ⟨rfl, hb⟩
    have H4 := Lib.hid (below_nextU H3.out z3 hb)
    have z4 := H4.out.size
    clear hb
    go_wp2_with fail
    refine (A2.out _).mono ?_
    rintro e w5 ⟨rfl, hb⟩
    have H5 := Lib.hid (below_nextU H4.out z4 hb)
    clear hb
    go_wp2
    go_ret
    exact ⟨rfl, H5.out⟩
  · go_enter Tryd.func4, Tryd.ntmps4
    go_wp2_with fail
    refine CS.out.mono ?_
    rintro e w1 ⟨rfl, hb⟩
    have H1 := Lib.hid hb
    clear hb
    go_wp2
    go_ret
    exact ⟨rfl, H1.out⟩

set_option maxRecDepth 100000 in
set_option maxHeartbeats 2000000 in
theorem folds_walk (s : ByteArray) (w : World) (hT : Tabs w) (hs : s.size ≤ maxLen) : Calls Tryd.prog 5 #[.string s] w fun e w' => e = .returned (.bool true) ∧ Below w.heap.size w w' := by
  have HT := Lib.hid hT
  clear hT
  have CS := Lib.hid (shown10_any w HT.out)
  unfold maxLen at hs
  by_cases h1 : s.size ≤ 1000
  · have A1 := Lib.hid (fun W hbW => pfolded_any s W (HT.out.below hbW) (by omega))
    have A2 := Lib.hid (fun W => xfolded_any s W (by omega))
    generalize utxt (foldedL s.data.toList) = X at *
    have hx : (X.toList == X.toList) = true := by simp
    go_enter Tryd.func5, Tryd.ntmps5
    go_wp2_with fail
    refine CS.out.mono ?_
    rintro e w1 ⟨rfl, hb⟩
    have H1 := Lib.hid hb
    have z1 := H1.out.size
    clear hb
    go_wp2_with fail
    refine (A1.out _ H1.out).mono ?_
    rintro e w4 ⟨rfl, hb⟩
    have H4 := Lib.hid (below_nextU H1.out z1 hb)
    have z4 := H4.out.size
    clear hb
    go_wp2_with fail
    refine (A2.out _).mono ?_
    rintro e w5 ⟨rfl, hb⟩
    have H5 := Lib.hid (below_nextU H4.out z4 hb)
    clear hb
    go_wp2
    go_ret
    exact ⟨rfl, H5.out⟩
  · go_enter Tryd.func5, Tryd.ntmps5
    go_wp2_with fail
    refine CS.out.mono ?_
    rintro e w1 ⟨rfl, hb⟩
    have H1 := Lib.hid hb
    clear hb
    go_wp2
    go_ret
    exact ⟨rfl, H1.out⟩

set_option maxRecDepth 100000 in
set_option maxHeartbeats 4000000 in
theorem keeps_walk (r : Int) (s : ByteArray) (w : World) (hT : Tabs w) (hr : -9223372036854775808 ≤ r ∧ r ≤ 9223372036854775807) (hs : s.size ≤ maxLen) : Calls Tryd.prog 6 #[.int .i64 r, .string s] w fun e w' => e = .returned (.bool true) ∧ Below w.heap.size w w' := by
  have HT := Lib.hid hT
  clear hT
  have CS := Lib.hid (shown10_any w HT.out)
  unfold maxLen at hs
  by_cases h1 : s.size ≤ 1000
  · obtain ⟨k1, k2⟩ := foldI_keep r
    have hf := foldI_int hr
    have F1 := Lib.hid (fun W hbW => pfold_any r W (HT.out.below hbW) hr)
    have F2 := Lib.hid (fun W hbW => pfold_any (foldI r) W (HT.out.below hbW) hf)
    have K1 := Lib.hid (fun W hbW => pkind_any (foldI r) W (HT.out.below hbW) hf)
    have K2 := Lib.hid (fun W hbW => pkind_any r W (HT.out.below hbW) hr)
    rw [k1] at F2
    rw [k2] at K1
    have hfl := folded_len s.data.toList
    rw [data_len] at hfl
    have T1 := Lib.hid (fun W hbW => pfolded_any s W (HT.out.below hbW) (by omega))
    have V1 := Lib.hid (fun W hbW => pvalid_any s W (HT.out.below hbW) (by omega))
    have V2 : Hid (∀ W, Below w.heap.size w W → Calls Tryd.prog 12 #[.string (utxt (foldedL s.data.toList))] W fun e w' => e = .returned (.bool (validL s.data.toList)) ∧ Below W.heap.size W w') := fun W hbW => by
      have := pvalid_any (utxt (foldedL s.data.toList)) W (HT.out.below hbW) (by rw [utxt_size]; omega)
      rw [utxt_data, fold_valid] at this; exact this
    have T2 : Hid (∀ W, Below w.heap.size w W → Calls Tryd.prog 21 #[.string (utxt (foldedL s.data.toList))] W fun e w' => e = .returned (.string (utxt (foldedL s.data.toList))) ∧ Below W.heap.size W w') := fun W hbW => by
      have := pfolded_any (utxt (foldedL s.data.toList)) W (HT.out.below hbW) (by rw [utxt_size]; omega)
      rw [utxt_data, fold_twice] at this; exact this
    have A1 := Lib.hid (fun W => pappend_any s r W (by omega) hr)
    -- the rune that is appended
    obtain ⟨k, hk, hkr, hkx⟩ : ∃ k : Nat, isRn k = true ∧ appL s.data.toList r = s.data.toList ++ byts k ∧ ((isI r = true ∧ (k : Int) = r) ∨ (isI r = false ∧ k = 65533)) := by
      cases hi : isI r with
      | true =>
        obtain ⟨k, rfl, hk⟩ := isI_of hi
        exact ⟨k, hk, by unfold appL; rw [if_pos hi]; rfl, .inl ⟨rfl, rfl⟩⟩
      | false => exact ⟨65533, rn_fffd, by unfold appL; rw [if_neg (by rw [hi]; simp)], .inr ⟨rfl, rfl⟩⟩
    have hbl := byts_len k
    have hb4 : (byts k).length ≤ 4 ∧ 1 ≤ (byts k).length := by rw [hbl]; split; omega; split; omega; split <;> omega
    have CI := Lib.hid (fun W => is_any r W hr)
    have usz : (utxt (appL s.data.toList r)).size = s.size + (byts k).length := by rw [utxt_size, hkr, List.length_append, data_len]
    have R1 : Hid (∀ W, Below w.heap.size w W → Calls Tryd.prog 10 #[.string (utxt (byts k))] W fun e w' => e = .returned (.tuple #[.int .i64 (k : Int), .int .i64 ((byts k).length : Nat)]) ∧ Below W.heap.size W w') := fun W hbW => by
      have := prune_any (utxt (byts k)) W (HT.out.below hbW) (by rw [utxt_size]; omega)
      have e := rune_byts k [] hk
      rw [List.append_nil] at e
      rw [utxt_data, e] at this; exact this
    have V3 : Hid (∀ W, Below w.heap.size w W → ∃ v, (v = validL s.data.toList ∨ validL s.data.toList = false) ∧ Calls Tryd.prog 12 #[.string (utxt (appL s.data.toList r))] W fun e w' => e = .returned (.bool v) ∧ Below W.heap.size W w') := fun W hbW => by
      refine ⟨_, ?_, pvalid_any (utxt (appL s.data.toList r)) W (HT.out.below hbW) (by rw [usz]; omega)⟩
      rw [utxt_data, hkr]
      cases hv : validL s.data.toList with
      | false => exact .inr rfl
      | true =>
        left
        rw [valid_append hv]
        have := valid_byts k [] hk
        rw [List.append_nil] at this
        rw [this]; rfl
    have HC1 : Hid ((utxt (appL s.data.toList r)).extract s.size (utxt (appL s.data.toList r)).size = utxt (byts k)) := by
      show _ = _
      rw [utxt_drop, utxt_data, hkr, ← data_len s, List.drop_left]
    have HC2 : Hid ((utxt (appL s.data.toList r)).extract 0 s.size = s) := by
      show _ = _
      rw [utxt_take, utxt_data, hkr, ← data_len s, List.take_left, utxt_of]
    clear k1 k2 hbl hkr hk hfl
    generalize (byts k).length = n at *
    generalize utxt (byts k) = B at *
    generalize utxt (appL s.data.toList r) = U at *
    generalize utxt (foldedL s.data.toList) = T at *
    generalize validL s.data.toList = v at *
    generalize foldI r = f at *
    generalize kindI r = kd at *
    have hnn : (U.size : Int) - (s.size : Int) = (n : Int) := by omega
    have i1 : (s.size : Int) ≤ (U.size : Int) := by omega
    have i3 : U.size ≤ 1100 := by omega
    clear usz
    have hss : (s.toList == s.toList) = true := by simp
    have htt : (T.toList == T.toList) = true := by simp
    go_enter Tryd.func6, Tryd.ntmps6
    go_wp2_with fail
    refine CS.out.mono ?_
    rintro e w1 ⟨rfl, hb⟩
    have H1 := Lib.hid hb
    have z1 := H1.out.size
    clear hb
    go_wp2_with fail
    refine (F1.out _ H1.out).mono ?_
    rintro e w2 ⟨rfl, hb⟩
    have H2 := Lib.hid (below_nextU H1.out z1 hb)
    have z2 := H2.out.size
    clear hb
    go_wp2_with fail
    refine (F2.out _ H2.out).mono ?_
    rintro e w3 ⟨rfl, hb⟩
    have H3 := Lib.hid (below_nextU H2.out z2 hb)
    have z3 := H3.out.size
    clear hb
    go_wp2_with fail
    refine (K1.out _ H3.out).mono ?_
    rintro e w4 ⟨rfl, hb⟩
    have H4 := Lib.hid (below_nextU H3.out z3 hb)
    have z4 := H4.out.size
    clear hb
    go_wp2_with fail
    refine (K2.out _ H4.out).mono ?_
    rintro e w5 ⟨rfl, hb⟩
    have H5 := Lib.hid (below_nextU H4.out z4 hb)
    have z5 := H5.out.size
    clear hb
    go_wp2_with fail
    refine (T1.out _ H5.out).mono ?_
    rintro e w6 ⟨rfl, hb⟩
    have H6 := Lib.hid (below_nextU H5.out z5 hb)
    have z6 := H6.out.size
    clear hb
    go_wp2_with fail
    refine (V1.out _ H6.out).mono ?_
    rintro e w7 ⟨rfl, hb⟩
    have H7 := Lib.hid (below_nextU H6.out z6 hb)
    have z7 := H7.out.size
    clear hb
    go_wp2_with fail
    refine (V2.out _ H7.out).mono ?_
    rintro e w8 ⟨rfl, hb⟩
    have H8 := Lib.hid (below_nextU H7.out z7 hb)
    have z8 := H8.out.size
    clear hb
    go_wp2_with fail
    refine (T2.out _ H8.out).mono ?_
    rintro e w9 ⟨rfl, hb⟩
    have H9 := Lib.hid (below_nextU H8.out z8 hb)
    have z9 := H9.out.size
    clear hb
    go_wp2_with fail
    refine (A1.out _).mono ?_
    rintro e w10 ⟨rfl, hb⟩
    have H10 := Lib.hid (below_nextU H9.out z9 hb)
    have z10 := H10.out.size
    clear hb F1 F2 K1 K2 T1 T2 V1 V2 A1 H1 H2 H3 H4 H5 H6 H7 H8 H9 z1 z2 z3 z4 z5 z6 z7 z8 z9
    have hc1 := HC1.out; have hc2 := HC2.out
    go_wp2_with fail
    refine (R1.out _ H10.out).mono ?_
    rintro e w11 ⟨rfl, hb⟩
    have H11 := Lib.hid (below_nextU H10.out z10 hb)
    have z11 := H11.out.size
    clear hb R1 H10 z10
    go_wp2_with fail
    refine (CI.out _).mono ?_
    rintro e w11' ⟨rfl, rfl⟩
    obtain ⟨v2, hv2, V4⟩ := V3.out w11 H11.out
    have V5 := Lib.hid V4
    clear V4 V3 CI
    rcases hkx with ⟨hi, hk⟩ | ⟨hi, hk⟩
    · rw [hi, hk]
      clear hi hk
      have hrr : (r != r) = false := by simp
      go_wp2_with fail
      refine V5.out.mono ?_
      rintro e w12 ⟨rfl, hb⟩
      have H12 := Lib.hid (below_nextU H11.out z11 hb)
      clear hb V5
      cases v with
      | false =>
        cases v2
        all_goals
          go_wp2
          go_ret
          exact ⟨rfl, H12.out⟩
      | true =>
        have hv3 : v2 = true := by rcases hv2 with h | h; exact h; cases h
        subst hv3
        go_wp2
        go_ret
        exact ⟨rfl, H12.out⟩
    · rw [hi, hk]
      clear hi hk
      go_wp2_with fail
      refine V5.out.mono ?_
      rintro e w12 ⟨rfl, hb⟩
      have H12 := Lib.hid (below_nextU H11.out z11 hb)
      clear hb V5
      cases v with
      | false =>
        cases v2
        all_goals
          go_wp2
          go_ret
          exact ⟨rfl, H12.out⟩
      | true =>
        have hv3 : v2 = true := by rcases hv2 with h | h; exact h; cases h
        subst hv3
        go_wp2
        go_ret
        exact ⟨rfl, H12.out⟩
  · go_enter Tryd.func6, Tryd.ntmps6
    go_wp2_with fail
    refine CS.out.mono ?_
    rintro e w1 ⟨rfl, hb⟩
    have H1 := Lib.hid hb
    clear hb
    go_wp2
    go_ret
    exact ⟨rfl, H1.out⟩

set_option maxRecDepth 100000 in
set_option maxHeartbeats 4000000 in
theorem bytes_run (z : Int) (n : Nat) (S : ByteArray) (w : World) (CS : Hid (Calls Tryd.prog 9 #[] w fun e w' => e = .returned (.bool true) ∧ Below w.heap.size w w'))
    (CI : Hid (∀ W, Calls Tryd.prog 23 #[.int .i64 z] W fun e w' => e = .returned (.bool true) ∧ W = w'))
    (A1 : Hid (∀ W, Calls Tryd.prog 19 #[.string ⟨#[]⟩, .int .i64 z] W fun e w' => e = .returned (.string S) ∧ Below W.heap.size W w'))
    (R1 : Hid (∀ W, Below w.heap.size w W → Calls Tryd.prog 10 #[.string (S ++ ⟨#[120]⟩)] W fun e w' => e = .returned (.tuple #[.int .i64 z, .int .i64 (n : Nat)]) ∧ Below W.heap.size W w'))
    (R2 : Hid (∀ W, Below w.heap.size w W → Calls Tryd.prog 10 #[.string (S.extract 0 (n - 1))] W fun e w' => e = .returned (.tuple #[.int .i64 (-1), .int .i64 ((if n = 1 then 0 else 1 : Nat) : Int)]) ∧ Below W.heap.size W w'))
    (usz : S.size = n) (hz : (z < 128 ∧ n = 1) ∨ (¬ z < 128 ∧ z < 2048 ∧ n = 2) ∨ (¬ z < 128 ∧ ¬ z < 2048 ∧ z < 65536 ∧ n = 3) ∨ (¬ z < 128 ∧ ¬ z < 2048 ∧ ¬ z < 65536 ∧ n = 4)) :
    Calls Tryd.prog 8 #[.int .i64 z] w fun e w' => e = .returned (.bool true) ∧ Below w.heap.size w w' := by
  have hkk : (z == z) = true := by simp
  rcases hz with ⟨d1, hn⟩ | ⟨d1, d2, hn⟩ | ⟨d1, d2, d3, hn⟩ | ⟨d1, d2, d3, hn⟩
  · subst hn
    have R2' : Hid (∀ W, Below w.heap.size w W → Calls Tryd.prog 10 #[.string ByteArray.empty] W fun e w' => e = .returned (.tuple #[.int .i64 (-1), .int .i64 0]) ∧ Below W.heap.size W w') := by
      have R3 := R2
      rw [show S.extract 0 (1 - 1) = ByteArray.empty from by simp] at R3
      exact R3
    have R1' : Hid (∀ W, Below w.heap.size w W → Calls Tryd.prog 10 #[.string (S ++ ⟨#[120]⟩)] W fun e w' => e = .returned (.tuple #[.int .i64 z, .int .i64 1]) ∧ Below W.heap.size W w') := R1
    clear R1 R2
    go_enter Tryd.func8, Tryd.ntmps8
    go_wp2_with fail
    refine CS.out.mono ?_
    rintro e w1 ⟨rfl, hb⟩
    have H1 := Lib.hid hb
    have z1 := H1.out.size
    clear hb CS
    go_wp2_with fail
    refine (CI.out _).mono ?_
    rintro e w1' ⟨rfl, rfl⟩
    go_wp2_with fail
    refine (A1.out _).mono ?_
    rintro e w2 ⟨rfl, hb⟩
    have H2 := Lib.hid (below_nextU H1.out z1 hb)
    have z2 := H2.out.size
    clear hb CI A1
    go_wp2_with fail
    refine (R1'.out _ H2.out).mono ?_
    rintro e w3 ⟨rfl, hb⟩
    have H3 := Lib.hid (below_nextU H2.out z2 hb)
    have z3 := H3.out.size
    clear hb
    go_wp2_with fail
    refine (R2'.out _ H3.out).mono ?_
    rintro e w4 ⟨rfl, hb⟩
    have H4 := Lib.hid (below_nextU H3.out z3 hb)
    clear hb
    go_wp2
    go_ret
    exact ⟨rfl, H4.out⟩
  · subst hn
    have R2' : Hid (∀ W, Below w.heap.size w W → Calls Tryd.prog 10 #[.string (S.extract 0 1)] W fun e w' => e = .returned (.tuple #[.int .i64 (-1), .int .i64 1]) ∧ Below W.heap.size W w') := by
      have R3 := R2
      rw [show S.extract 0 (2 - 1) = (S.extract 0 1) from by simp] at R3
      exact R3
    have R1' : Hid (∀ W, Below w.heap.size w W → Calls Tryd.prog 10 #[.string (S ++ ⟨#[120]⟩)] W fun e w' => e = .returned (.tuple #[.int .i64 z, .int .i64 2]) ∧ Below W.heap.size W w') := R1
    clear R1 R2
    go_enter Tryd.func8, Tryd.ntmps8
    go_wp2_with fail
    refine CS.out.mono ?_
    rintro e w1 ⟨rfl, hb⟩
    have H1 := Lib.hid hb
    have z1 := H1.out.size
    clear hb CS
    go_wp2_with fail
    refine (CI.out _).mono ?_
    rintro e w1' ⟨rfl, rfl⟩
    go_wp2_with fail
    refine (A1.out _).mono ?_
    rintro e w2 ⟨rfl, hb⟩
    have H2 := Lib.hid (below_nextU H1.out z1 hb)
    have z2 := H2.out.size
    clear hb CI A1
    go_wp2_with fail
    refine (R1'.out _ H2.out).mono ?_
    rintro e w3 ⟨rfl, hb⟩
    have H3 := Lib.hid (below_nextU H2.out z2 hb)
    have z3 := H3.out.size
    clear hb
    go_wp2_with fail
    refine (R2'.out _ H3.out).mono ?_
    rintro e w4 ⟨rfl, hb⟩
    have H4 := Lib.hid (below_nextU H3.out z3 hb)
    clear hb
    go_wp2
    go_ret
    exact ⟨rfl, H4.out⟩
  · subst hn
    have R2' : Hid (∀ W, Below w.heap.size w W → Calls Tryd.prog 10 #[.string (S.extract 0 2)] W fun e w' => e = .returned (.tuple #[.int .i64 (-1), .int .i64 1]) ∧ Below W.heap.size W w') := by
      have R3 := R2
      rw [show S.extract 0 (3 - 1) = (S.extract 0 2) from by simp] at R3
      exact R3
    have R1' : Hid (∀ W, Below w.heap.size w W → Calls Tryd.prog 10 #[.string (S ++ ⟨#[120]⟩)] W fun e w' => e = .returned (.tuple #[.int .i64 z, .int .i64 3]) ∧ Below W.heap.size W w') := R1
    clear R1 R2
    go_enter Tryd.func8, Tryd.ntmps8
    go_wp2_with fail
    refine CS.out.mono ?_
    rintro e w1 ⟨rfl, hb⟩
    have H1 := Lib.hid hb
    have z1 := H1.out.size
    clear hb CS
    go_wp2_with fail
    refine (CI.out _).mono ?_
    rintro e w1' ⟨rfl, rfl⟩
    go_wp2_with fail
    refine (A1.out _).mono ?_
    rintro e w2 ⟨rfl, hb⟩
    have H2 := Lib.hid (below_nextU H1.out z1 hb)
    have z2 := H2.out.size
    clear hb CI A1
    go_wp2_with fail
    refine (R1'.out _ H2.out).mono ?_
    rintro e w3 ⟨rfl, hb⟩
    have H3 := Lib.hid (below_nextU H2.out z2 hb)
    have z3 := H3.out.size
    clear hb
    go_wp2_with fail
    refine (R2'.out _ H3.out).mono ?_
    rintro e w4 ⟨rfl, hb⟩
    have H4 := Lib.hid (below_nextU H3.out z3 hb)
    clear hb
    go_wp2
    go_ret
    exact ⟨rfl, H4.out⟩
  · subst hn
    have R2' : Hid (∀ W, Below w.heap.size w W → Calls Tryd.prog 10 #[.string (S.extract 0 3)] W fun e w' => e = .returned (.tuple #[.int .i64 (-1), .int .i64 1]) ∧ Below W.heap.size W w') := by
      have R3 := R2
      rw [show S.extract 0 (4 - 1) = (S.extract 0 3) from by simp] at R3
      exact R3
    have R1' : Hid (∀ W, Below w.heap.size w W → Calls Tryd.prog 10 #[.string (S ++ ⟨#[120]⟩)] W fun e w' => e = .returned (.tuple #[.int .i64 z, .int .i64 4]) ∧ Below W.heap.size W w') := R1
    clear R1 R2
    go_enter Tryd.func8, Tryd.ntmps8
    go_wp2_with fail
    refine CS.out.mono ?_
    rintro e w1 ⟨rfl, hb⟩
    have H1 := Lib.hid hb
    have z1 := H1.out.size
    clear hb CS
    go_wp2_with fail
    refine (CI.out _).mono ?_
    rintro e w1' ⟨rfl, rfl⟩
    go_wp2_with fail
    refine (A1.out _).mono ?_
    rintro e w2 ⟨rfl, hb⟩
    have H2 := Lib.hid (below_nextU H1.out z1 hb)
    have z2 := H2.out.size
    clear hb CI A1
    go_wp2_with fail
    refine (R1'.out _ H2.out).mono ?_
    rintro e w3 ⟨rfl, hb⟩
    have H3 := Lib.hid (below_nextU H2.out z2 hb)
    have z3 := H3.out.size
    clear hb
    go_wp2_with fail
    refine (R2'.out _ H3.out).mono ?_
    rintro e w4 ⟨rfl, hb⟩
    have H4 := Lib.hid (below_nextU H3.out z3 hb)
    clear hb
    go_wp2
    go_ret
    exact ⟨rfl, H4.out⟩
set_option maxRecDepth 100000 in
set_option maxHeartbeats 4000000 in
theorem bytes_walk (r : Int) (w : World) (hT : Tabs w) (hr : -9223372036854775808 ≤ r ∧ r ≤ 9223372036854775807) : Calls Tryd.prog 8 #[.int .i64 r] w fun e w' => e = .returned (.bool true) ∧ Below w.heap.size w w' := by
  have HT := Lib.hid hT
  clear hT
  have CS := Lib.hid (shown10_any w HT.out)
  have CI := Lib.hid (fun W => is_any r W hr)
  cases hi : isI r with
  | false =>
    rw [hi] at CI
    go_enter Tryd.func8, Tryd.ntmps8
    go_wp2_with fail
    refine CS.out.mono ?_
    rintro e w1 ⟨rfl, hb⟩
    have H1 := Lib.hid hb
    clear hb
    go_wp2_with fail
    refine (CI.out _).mono ?_
    rintro e w1' ⟨rfl, rfl⟩
    go_wp2
    go_ret
    exact ⟨rfl, H1.out⟩
  | true =>
    rw [hi] at CI
    obtain ⟨k, rfl, hk⟩ := isI_of hi
    have hbl := byts_len k
    have A1 : Hid (∀ W, Calls Tryd.prog 19 #[.string ⟨#[]⟩, .int .i64 (k : Int)] W fun e w' => e = .returned (.string (utxt (byts k))) ∧ Below W.heap.size W w') := fun W => by
      have := pappend_any ⟨#[]⟩ (k : Int) W (by decide) hr
      rw [show appL (⟨#[]⟩ : ByteArray).data.toList (k : Int) = byts k by unfold appL; rw [if_pos hi]; rfl] at this
      exact this
    have R1 : Hid (∀ W, Below w.heap.size w W → Calls Tryd.prog 10 #[.string (utxt (byts k) ++ ⟨#[120]⟩)] W fun e w' => e = .returned (.tuple #[.int .i64 (k : Int), .int .i64 ((byts k).length : Nat)]) ∧ Below W.heap.size W w') := fun W hbW => by
      have e0 : utxt (byts k) ++ ⟨#[120]⟩ = utxt (byts k ++ [120]) := utxt_app _ [120]
      have := prune_any (utxt (byts k ++ [120])) W (HT.out.below hbW) (by rw [utxt_size, List.length_append, hbl]; simp; split; omega; split; omega; split <;> omega)
      rw [utxt_data, rune_byts k [120] hk] at this
      rw [e0]; exact this
    have hcut : runeL ((byts k).take ((byts k).length - 1)) = (-1, if (byts k).length = 1 then 0 else 1) := by
      unfold runeL
      rw [dec_short k hk]
      dsimp only
      congr 1
      by_cases h1 : (byts k).length = 1
      · rw [if_pos h1, if_pos]
        rw [h1]; simp
      · rw [if_neg h1, if_neg]
        intro e
        have := congrArg List.length e
        rw [List.length_take] at this
        have h2 : 1 ≤ (byts k).length := by rw [hbl]; split; omega; split; omega; split <;> omega
        simp at this
        omega
    have R2 : Hid (∀ W, Below w.heap.size w W → Calls Tryd.prog 10 #[.string ((utxt (byts k)).extract 0 ((byts k).length - 1))] W fun e w' => e = .returned (.tuple #[.int .i64 (-1), .int .i64 ((if (byts k).length = 1 then 0 else 1 : Nat) : Int)]) ∧ Below W.heap.size W w') := fun W hbW => by
      have := prune_any (utxt ((byts k).take ((byts k).length - 1))) W (HT.out.below hbW) (by rw [utxt_size, List.length_take, hbl]; split; omega; split; omega; split <;> omega)
      rw [utxt_data, hcut] at this
      rw [utxt_take, utxt_data]; exact this
    have usz : (utxt (byts k)).size = (byts k).length := utxt_size _
    clear hcut hk hi
    exact bytes_run (k : Int) (byts k).length (utxt (byts k)) w CS CI A1 R1 R2 usz (by rw [hbl]; split; omega; split; omega; split <;> omega)
end Go.Proofs.YtbmpnakhaeaneaaDoor
