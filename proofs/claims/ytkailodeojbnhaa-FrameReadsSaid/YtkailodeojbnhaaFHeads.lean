/- FrameHeads, walked: for any number, any writes and any text it answers true. -/
import Derived.Test.YtkailodeojbnhaaFMore
import Derived.IntWalk
namespace Go.Proofs.Ytkailodeojbnhaa
open Go.RowKit

/-- The same writes of other data. -/
def other (B : ByteArray) (M : List (Int × ByteArray)) : List (Int × ByteArray) := M.map fun x => (x.1, B)
def otherTo (B : ByteArray) (M : List (Int × ByteArray)) (k : Nat) : List (Int × ByteArray) := other B (M.take k) ++ M.drop k
theorem other_len (B : ByteArray) (M : List (Int × ByteArray)) : (other B M).length = M.length := by simp [other]
theorem otherTo_len (B : ByteArray) (M : List (Int × ByteArray)) (k : Nat) : (otherTo B M k).length = M.length := by
  unfold otherTo; rw [List.length_append, other_len, List.length_take, List.length_drop]; omega
theorem otherTo_zero (B : ByteArray) (M : List (Int × ByteArray)) : otherTo B M 0 = M := rfl
theorem otherTo_end (B : ByteArray) (M : List (Int × ByteArray)) (k : Nat) (h : M.length ≤ k) : otherTo B M k = other B M := by
  unfold otherTo; rw [List.take_of_length_le h, List.drop_of_length_le h, List.append_nil]
theorem otherTo_set (B : ByteArray) (M : List (Int × ByteArray)) (k : Nat) (h : k < M.length) : (otherTo B M k).set k (((otherTo B M k)[k]'(by rw [otherTo_len]; exact h)).1, B) = otherTo B M (k + 1) := by
  have e0 : (other B (M.take k)).length = k := by rw [other_len, List.length_take]; omega
  have e1 : (otherTo B M k)[k]'(by rw [otherTo_len]; exact h) = M[k] := by
    unfold otherTo
    rw [List.getElem_append_right (by omega)]
    simp [e0]
  rw [e1]
  unfold otherTo
  rw [List.set_append_right _ _ (by omega), e0, Nat.sub_self, List.drop_eq_getElem_cons h, List.set_cons_zero, List.take_succ_eq_append_getElem h]
  unfold other
  rw [List.map_append, List.append_assoc]
  rfl
theorem numsL_other (B : ByteArray) (M : List (Int × ByteArray)) : numsL (other B M) = numsL M := by
  unfold numsL other; rw [List.flatMap_map]
theorem headL_other (seq : Nat) (B : ByteArray) (M : List (Int × ByteArray)) : headL seq (other B M) = headL seq M := by
  unfold headL begL; rw [numsL_other, other_len]
theorem other_ok (B : ByteArray) (M : List (Int × ByteArray)) (hB : B.size = 256) (h : ∀ x ∈ M, WrOk x) : ∀ x ∈ other B M, WrOk x := by
  intro x hx
  obtain ⟨y, hy, rfl⟩ := List.mem_map.1 hx
  exact ⟨(h y hy).1, (h y hy).2.1, hB⟩
theorem top_take (seq : Nat) (M : List (Int × ByteArray)) (h : M.length ≤ 48) : (topL seq M).take 248 = headL seq M := by
  have hlen := headL_len seq M h
  unfold topL; rw [← hlen, List.take_left]
theorem hd_turned (s : ByteArray) (h : s.data.toList.take 4 ≠ cdxt) : hd s = (0, 0, false) := by
  unfold hd
  rw [if_neg]
  intro hh
  exact h ((headB_iff _).1 hh).2.1
theorem hd_short (s : ByteArray) (h : s.size ≠ 256) : hd s = (0, 0, false) := by
  unfold hd
  rw [if_neg]
  intro hh
  exact h (by rw [← str_len]; exact ((headB_iff _).1 hh).1)
theorem below_predrewN {B n : Nat} {w w1 : World} (h : Below B (w.drewN n) w1) : Below B w w1 := (below_drewN (Below.refl B w) n).trans h
theorem cell_other {w : World} {g p i j : Nat} {u v : Value} (h : w.cell? ⟨g, i, none⟩ = some v) (hne : g ≠ p) : (w.setCell ⟨p, j, none⟩ u).cell? ⟨g, i, none⟩ = some v := by
  rw [World.cell?_of_block (w := w) (Below.heap_setCell w ⟨p, j, none⟩ u g hne)]; exact h

set_option maxRecDepth 100000 in
set_option maxHeartbeats 4000000 in
theorem heads_walk (seq : Nat) (v : Value) (s : ByteArray) (L : List (Int × ByteArray)) (w : World) (hseq : seq < 18446744073709551616) (hA : WrsA w v L) (hs : s.size ≤ maxLen) :
    Calls Try.prog 8 #[.int .u64 (seq : Int), v, .string s] w fun e w' => e = .returned (.bool true) ∧ Below w.heap.size w w' := by
  obtain ⟨hsl, hlen, hel⟩ := hA
  have CS := Lib.hid (shown_any w)
  have CM : Hid (∀ W, Below w.heap.size w W → Calls Try.prog 10 #[v] W fun e w' => e = .returned (.bool (smallW L)) ∧ W = w') := fun W hW => small_any L v W hlen (fun x hx => (hel x hx).1) (hsl.below hW)
  have hs' := hs
  unfold maxLen at hs'
  cases hsm : smallW L with
  | false =>
    rw [hsm] at CM
    clear hsm hsl hel hlen hs
    go_enter Try.func8, Try.ntmps8
    go_wp2_with fail
    refine CS.out.mono ?_
    rintro e w1 ⟨rfl, hb1⟩
    have HB1 := Lib.hid hb1; clear hb1
    go_wp2_with fail
    refine (CM.out _ HB1.out).mono ?_
    rintro e w2 ⟨rfl, rfl⟩
    go_wp2
    go_ret
    exact ⟨rfl, HB1.out⟩
  | true =>
    rw [hsm] at CM
    obtain ⟨h60, h600⟩ := (smallW_iff L).1 hsm
    by_cases h0 : L.length = 0
    · have hL : L = [] := List.eq_nil_of_length_eq_zero h0
      obtain ⟨ao, c, rfl, _⟩ := hsl
      subst hL
      clear hsm hel hlen h600 h60 h0 hs
      simp only [List.length_nil] at CM ⊢
      go_enter Try.func8, Try.ntmps8
      go_wp2_with fail
      refine CS.out.mono ?_
      rintro e w1 ⟨rfl, hb1⟩
      have HB1 := Lib.hid hb1; clear hb1
      go_wp2_with fail
      refine (CM.out _ HB1.out).mono ?_
      rintro e w2 ⟨rfl, rfl⟩
      go_wp2
      go_ret
      exact ⟨rfl, HB1.out⟩
    · have hne0 : ((L.length : Int) == 0) = false := beq_eq_false_iff_ne.2 (by omega)
      by_cases hs6 : 600 < s.size
      · have i1 : (600 : Int) < (s.size : Int) := by omega
        obtain ⟨ao, c, hv, _⟩ := hsl
        clear hsm hel hlen h600 h0 hs hs6
        generalize L.length = m at *
        subst hv
        go_enter Try.func8, Try.ntmps8
        go_wp2_with fail
        refine CS.out.mono ?_
        rintro e w1 ⟨rfl, hb1⟩
        have HB1 := Lib.hid hb1; clear hb1
        go_wp2_with fail
        refine (CM.out _ HB1.out).mono ?_
        rintro e w2 ⟨rfl, rfl⟩
        go_wp2
        go_ret
        exact ⟨rfl, HB1.out⟩
      · have i1 : ¬ (600 : Int) < (s.size : Int) := by omega
        have CW : Hid (∀ W, Below w.heap.size w W → Calls Try.prog 14 #[v] W fun e w' => ∃ u, e = .returned u ∧ OwnW W.heap.size w' u (wholeL L) ∧ Below W.heap.size W w') := fun W hW => whole_any L v W h60 (fun x hx => ⟨h600 x hx, (hel x hx).2⟩) (hsl.below hW)
        have hwl : (wholeL L).length ≤ 48 := by rw [wholeL_len]; omega
        have hwl1 : 1 ≤ (wholeL L).length := by rw [wholeL_len]; omega
        have hwok := wholeL_ok L
        have CP : Hid (∀ W u, SlW W u (wholeL L) → Calls Try.prog 11 #[.int .u64 (seq : Int), u] W fun e w' => ∃ v, e = .returned (.tuple #[v, .int .i64 0]) ∧ OwnS W.heap.size w' v (packL seq (wholeL L)) ∧ Below W.heap.size W w') := fun W u h => by
          have := pack_any seq (wholeL L) u W hseq (by omega) (fun x hx => maxLen_of (by rw [(wholeL_ok L x hx).2.2]; omega)) h
          rw [pk_whole seq L (by omega)] at this; exact this
        obtain ⟨ao, c, hv, _⟩ := hsl
        generalize wholeL L = M at *
        generalize L.length = m at *
        subst hv
        clear hsm hel hlen h600 h0
        have CB : Hid (∀ W, Calls Try.prog 20 #[.string s] W fun e w' => e = .returned (.string (blockB s)) ∧ Below W.heap.size W w') := fun W => block_any s W hs
        have hB := blockB_size s
        generalize blockB s = B at *
        have hok2 := other_ok B M hB hwok
        have CP2 : Hid (∀ W u, SlW W u (other B M) → Calls Try.prog 11 #[.int .u64 (seq : Int), u] W fun e w' => ∃ v, e = .returned (.tuple #[v, .int .i64 0]) ∧ OwnS W.heap.size w' v (packL seq (other B M)) ∧ Below W.heap.size W w') := fun W u h => pack_yes seq (other B M) u W hseq h ((chk_ok _).2 ⟨by rw [other_len]; omega, by rw [other_len]; omega, hok2⟩)
        have zT : (bs (topL seq M)).size = 256 := by rw [bs_len]; exact topL_len seq M hwl
        have zT2 : (bs (topL seq (other B M))).size = 256 := by rw [bs_len]; exact topL_len seq _ (by rw [other_len]; exact hwl)
        have hx1 : (bs (topL seq M)).extract 0 248 = (bs (topL seq (other B M))).extract 0 248 := by
          rw [bs_ext, bs_ext, List.drop_zero, List.drop_zero, top_take seq M hwl, top_take seq _ (by rw [other_len]; exact hwl), headL_other]
        have CH : Hid (∀ W, Calls Try.prog 18 #[.string (bs (topL seq (other B M)))] W fun e w' => e = .returned (.tuple #[.int .u64 (seq : Int), .int .i64 (M.length : Int), .bool true]) ∧ Below W.heap.size W w') := fun W => by
          have := head_any (bs (topL seq (other B M))) W
          rw [hd_pack seq (other B M) hseq (by rw [other_len]; exact hwl1) (by rw [other_len]; exact hwl) hok2, other_len] at this; exact this
        have CX : Hid (∀ W, Calls Try.prog 18 #[.string (⟨#[120]⟩ ++ (bs (topL seq (other B M))).extract 1 (bs (topL seq (other B M))).size)] W fun e w' => e = .returned (.tuple #[.int .u64 0, .int .i64 0, .bool false]) ∧ Below W.heap.size W w') := fun W => by
          have := head_any (⟨#[120]⟩ ++ (bs (topL seq (other B M))).extract 1 (bs (topL seq (other B M))).size) W
          rw [hd_turned] at this
          · exact this
          · rw [bs_ext, show (⟨#[120]⟩ : ByteArray) = bs [120] from rfl, bs_append, data_bs]
            intro hh
            have := congrArg List.head? hh
            simp [cdxt] at this
        have CY : Hid (∀ W, Calls Try.prog 18 #[.string ((bs (topL seq (other B M))).extract 0 255)] W fun e w' => e = .returned (.tuple #[.int .u64 0, .int .i64 0, .bool false]) ∧ Below W.heap.size W w') := fun W => by
          have := head_any ((bs (topL seq (other B M))).extract 0 255) W
          rw [hd_short] at this
          · exact this
          · rw [bs_ext, bs_len, List.drop_zero, List.length_take]; omega
        have HPL := Lib.hid (packL_len seq M)
        have HP0 := Lib.hid (packL_zero seq M)
        have HPL2 := Lib.hid (packL_len seq (other B M))
        rw [other_len] at HPL2
        have HP02 := Lib.hid (packL_zero seq (other B M))
        clear hwok hok2 hB hs
        generalize packL seq M = pl at *
        generalize packL seq (other B M) = pl2 at *
        generalize bs (topL seq M) = T at *
        generalize bs (topL seq (other B M)) = T2 at *
        obtain ⟨n, hn⟩ : ∃ n, M.length = n := ⟨_, rfl⟩
        rw [hn] at hwl hwl1 CH HPL HPL2
        have HN := Lib.hid hn; clear hn
        go_enter Try.func8, Try.ntmps8
        go_wp2_with fail
        refine CS.out.mono ?_
        rintro e w1 ⟨rfl, hb1⟩
        have HB1 := Lib.hid hb1; clear hb1 CS
        go_wp2_with fail
        refine (CM.out _ HB1.out).mono ?_
        rintro e w2 ⟨rfl, rfl⟩
        go_wp2_with fail
        refine (CW.out _ HB1.out).mono ?_
        rintro e w3 ⟨u3, rfl, ho3, hb3⟩
        have HB3 := Lib.hid (HB1.out.trans (hb3.mono HB1.out.size))
        obtain ⟨g3, c3, hv3, hc3, hgb, hg3, hst3, hfr3⟩ := ho3.here (by rw [HN.out]; omega)
        rw [HN.out] at hv3
        subst hv3
        have HO3 := Lib.hid (ho3.mono HB1.out.size)
        have hgw : w.heap.size ≤ g3 := Nat.le_trans HB1.out.size hgb
        clear hb3 ho3 hst3 hfr3 HB1 CW CM hgb
        go_wp2_with fail
        refine (CP.out _ _ HO3.out.sl).mono ?_
        rintro e w4 ⟨u4, rfl, ho4, hb4⟩
        have HB4 := Lib.hid (HB3.out.trans (hb4.mono HB3.out.size))
        have HO4 := Lib.hid (HO3.out.below hb4)
        obtain ⟨g, c4, hv4, hc4, hgg, hg4, hst4, _⟩ := ho4.here (by rw [HPL.out]; omega)
        rw [HPL.out] at hv4 hc4
        subst hv4
        have q0 := hst4.at? HP0.out
        rw [Nat.add_zero] at q0
        have hne : g ≠ g3 := by omega
        have HQ := Lib.hid q0
        clear hb4 ho4 hst4 HO3 CP HB3 q0
        go_wp2_with fail
        go_loopw [12] (fun i wr => ∃ k : Nat, k ≤ n ∧ i = .int .i64 k ∧ g < wr.heap.size ∧ g3 < wr.heap.size ∧ Hid (OwnW w.heap.size wr (.slice (some ⟨g3, 0, none⟩) n c3) (otherTo B M k)) ∧ Hid (wr.cell? ⟨g, 0, none⟩ = some (.string T)) ∧ Hid (Below w.heap.size w wr)) (fun i _ => n - (intOf i).toNat)
        case atStart => exact ⟨0, Nat.zero_le _, rfl, hg4, by omega, HO4, HQ, HB4⟩
        case round =>
          clear HO4 HQ HB4
          obtain ⟨k, hk, rfl, hgr, hg3r, HOK, HQ, HB⟩ := hrel
          have hbr := HB.out.size
          by_cases hlt : k < n
          · have hkM : k < M.length := by rw [HN.out]; exact hlt
            have HST : Hid (∀ W, OwnW w.heap.size W (.slice (some ⟨g3, 0, none⟩) n c3) (otherTo B M k) → OwnW w.heap.size (W.setCell ⟨g3, k * 2 + 1, none⟩ (.string B)) (.slice (some ⟨g3, 0, none⟩) n c3) (otherTo B M (k + 1))) := by
              intro W hW
              exact hW.storeN (by rw [otherTo_len]; exact HN.out) k (by rw [otherTo_len]; exact hkM) B (otherTo_set B M k hkM)
            have i2 : (k : Int) < (n : Int) := by omega
            go_wp2_with fail
            refine (CB.out _).mono ?_
            rintro e w5 ⟨rfl, hb5⟩
            have HB5 := Lib.hid (HB.out.trans (hb5.mono hbr))
            have HO5 := Lib.hid (HOK.out.below hb5)
            have HQ5 := Lib.hid ((hb5.cell (p := ⟨g, 0, none⟩) hgr).trans HQ.out)
            have z5 := hb5.size
            obtain ⟨g', c', hv, _, _, _, hst, hfr⟩ := HO5.out.here (by rw [otherTo_len]; omega)
            rw [otherTo_len, HN.out] at hv
            obtain ⟨rfl, rfl⟩ : g3 = g' ∧ c3 = c' := by simpa using hv
            have a1 := (hst k (by rw [otherTo_len]; exact hkM)).2
            have a2 := hfr (k * 2 + 1)
            rw [Nat.zero_add] at a1
            clear hb5 HOK HQ HB hst hfr hv
            generalize ((otherTo B M k)[k]'(by rw [otherTo_len]; exact hkM)).2 = old at *
            go_wp2
            go_roundw
            case rel => exact ⟨k + 1, by omega, by go_num, by simp [World.setCell]; omega, by simp [World.setCell]; omega, HST.out _ HO5.out, cell_other HQ5.out hne, HB5.out.setCell hgw _⟩
            case measure => simp [intOf]; omega
          · have HOE : Hid (SlW wr (.slice (some ⟨g3, 0, none⟩) n c3) (other B M)) := by
              have := HOK.out.sl
              rw [otherTo_end B M k (by rw [HN.out]; omega)] at this
              exact this
            have i2 : ¬ (k : Int) < (n : Int) := by omega
            go_wp2_with fail
            refine (CP2.out _ _ HOE.out).mono ?_
            rintro e w6 ⟨u6, rfl, ho6, hb6⟩
            have HB6 := Lib.hid (HB.out.trans (hb6.mono hbr))
            have qp := (hb6.cell (p := ⟨g, 0, none⟩) hgr).trans HQ.out
            obtain ⟨g6, c6, hv6, hc6, _, hg6, hst6, _⟩ := ho6.here (by rw [HPL2.out]; omega)
            rw [HPL2.out] at hv6 hc6
            subst hv6
            have q0 := hst6.at? HP02.out
            rw [Nat.add_zero] at q0
            have hgw6 : g < w6.heap.size := Nat.lt_of_lt_of_le hgr hb6.size
            clear hb6 ho6 hst6 HOK HOE HQ HB CP2 CB
            have hz : ((T.size : Int) != 256) = false := by simp; omega
            have hz2 : ((T2.size : Int) != 256) = false := by simp; omega
            have hnn : ((n : Int) + 1 != (n : Int) + 1) = false := by simp
            have hse : (!((T.extract 0 248).toList == (T2.extract 0 248).toList)) = false := by rw [str_same hx1]; rfl
            have i3 : (248 : Int) ≤ (T.size : Int) := by omega
            have i4 : (248 : Int) ≤ (T2.size : Int) := by omega
            have i5 : (0 : Int) < (n : Int) + 1 := by omega
            go_wp2_with fail
            go_quiet (fail)
            clear hse hz hz2 hnn
            go_wp2_with fail
            refine (CH.out _).mono ?_
            rintro e w7 ⟨rfl, hb7⟩
            have H7 := below_predrewN hb7
            have HB7 := Lib.hid (HB6.out.trans (H7.mono HB6.out.size))
            have q7 := (H7.cell (p := ⟨g6, 0, none⟩) hg6).trans q0
            have hg7 : g6 < w7.heap.size := Nat.lt_of_lt_of_le hg6 H7.size
            clear hb7 H7 q0 qp HB6 CH
            have i6 : (1 : Int) ≤ (T2.size : Int) := by omega
            have i7 : (255 : Int) ≤ (T2.size : Int) := by omega
            have HZ2 := Lib.hid zT2
            have zz : T2.size ≤ 256 := by omega
            clear zT2 zT
            obtain ⟨X1, hX1⟩ : ∃ X, T2.extract 1 T2.size = X := ⟨_, rfl⟩
            have zX1 : X1.size ≤ 256 := by rw [← hX1]; simp; omega
            rw [hX1] at CX
            go_wp2_with fail
            refine (CX.out _).mono ?_
            rintro e w8 ⟨rfl, hb8⟩
            have HB8 := Lib.hid (HB7.out.trans (hb8.mono HB7.out.size))
            have q8 := (hb8.cell (p := ⟨g6, 0, none⟩) hg7).trans q7
            clear hb8 q7 HB7 CX
            go_wp2_with fail
            refine (CY.out _).mono ?_
            rintro e w9 ⟨rfl, hb9⟩
            have HB9 := Lib.hid (HB8.out.trans (hb9.mono HB8.out.size))
            clear hb9 q8 HB8 CY
            have hsq : ((seq : Int) == (seq : Int)) = true := by simp
            have hnn : ((n : Int) == (n : Int)) = true := by simp
            go_wp2
            go_ret
            exact ⟨rfl, HB9.out⟩
end Go.Proofs.Ytkailodeojbnhaa
