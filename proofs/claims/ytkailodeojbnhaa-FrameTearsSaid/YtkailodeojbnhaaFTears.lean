/- FrameTears, walked: for any number, any writes, any place and any byte it answers true. -/
import Derived.Test.YtkailodeojbnhaaFMore
import Derived.Test.YtkailodeojbnhaaFTearM
import Derived.Test.YtkailodeojbnhaaFHeads
import Derived.Test.YtkailodeojbnhaaFRowT
namespace Go.Proofs.Ytkailodeojbnhaa
open Go.RowKit

theorem packL_set_zero (seq : Nat) (M : List (Int × ByteArray)) (s : ByteArray) : (packL seq M).set 0 s = s :: M.map (·.2) := rfl
theorem packL_set_succ (seq : Nat) (M : List (Int × ByteArray)) (k : Nat) (s : ByteArray) : (packL seq M).set (k + 1) s = bs (topL seq M) :: (M.map (·.2)).set k s := rfl
/-- What is torn is not unpacked. -/
theorem torn (seq : Nat) (M : List (Int × ByteArray)) (k m : Nat) (c : UInt8) (s : ByteArray) (hseq : seq < 18446744073709551616) (h1 : 1 ≤ M.length) (h48 : M.length ≤ 48) (hw : ∀ x ∈ M, WrOk x) (hk : k < M.length + 1) (hm : m < 256)
    (hs : (packL seq M)[k]? = some s) (hne : c ≠ s.data.toList.getD m 0) (hn : ¬ (k = 0 ∧ 12 ≤ m ∧ m < 16)) : (unp ((packL seq M).set k (bs (s.data.toList.set m c)))).2.2 ≠ 0 := by
  intro h
  cases k with
  | zero =>
    rw [packL_zero] at hs
    cases hs
    rw [packL_set_zero, data_bs] at h
    rw [data_bs] at hne
    exact hne (tear_head seq M m c hseq h1 h48 hw hm (fun hh => hn ⟨rfl, hh⟩) h)
  | succ k =>
    have hk' : k < M.length := by omega
    rw [packL_succ seq M k hk'] at hs
    cases hs
    rw [packL_set_succ] at h
    exact hne (tear_data seq M k m c hseq h1 h48 hw hk' hm h)
theorem unp_torn {L : List ByteArray} (h : (unp L).2.2 ≠ 0) : ∃ e : Nat, e ≠ 0 ∧ (unp L).2.1 = [] ∧ (unp L).2.2 = e := ⟨_, h, unp_err L h, rfl⟩

set_option maxRecDepth 100000 in
set_option maxHeartbeats 4000000 in
theorem tears_walk (seq : Nat) (v : Value) (at_ place tb : Int) (L : List (Int × ByteArray)) (w : World) (hseq : seq < 18446744073709551616) (hA : WrsA w v L) (hat : -9223372036854775808 ≤ at_ ∧ at_ ≤ 9223372036854775807) (hpl : -9223372036854775808 ≤ place ∧ place ≤ 9223372036854775807) (_hto : -9223372036854775808 ≤ tb ∧ tb ≤ 9223372036854775807) :
    Calls Try.prog 6 #[.int .u64 (seq : Int), v, .int .i64 at_, .int .i64 place, .int .i64 tb] w fun e w' => e = .returned (.bool true) ∧ Below w.heap.size w w' := by
  obtain ⟨hsl, hlen, hel⟩ := hA
  have CS := Lib.hid (shown_any w)
  have CM : Hid (∀ W, Below w.heap.size w W → Calls Try.prog 10 #[v] W fun e w' => e = .returned (.bool (smallW L)) ∧ W = w') := fun W hW => small_any L v W hlen (fun x hx => (hel x hx).1) (hsl.below hW)
  cases hsm : smallW L with
  | false =>
    rw [hsm] at CM
    clear hsm hsl hel hlen
    go_enter Try.func6, Try.ntmps6
    go_wp2_with fail
    refine CS.out.mono ?_
    rintro e w1 ⟨rfl, hb1⟩
    have HB1 := Lib.hid hb1; clear hb1
    go_wp2_with fail
    refine (CM.out _ HB1.out).mono ?_
    rintro e w2 ⟨rfl, rfl⟩
    go_wp2
    go_ret
    exact ⟨rfl, HB1.out⟩
  | true =>
    rw [hsm] at CM
    obtain ⟨h60, h600⟩ := (smallW_iff L).1 hsm
    by_cases h0 : L.length = 0
    · have hL : L = [] := List.eq_nil_of_length_eq_zero h0
      obtain ⟨ao, c, rfl, _⟩ := hsl
      subst hL
      clear hsm hel hlen h600 h60 h0
      simp only [List.length_nil] at CM ⊢
      go_enter Try.func6, Try.ntmps6
      go_wp2_with fail
      refine CS.out.mono ?_
      rintro e w1 ⟨rfl, hb1⟩
      have HB1 := Lib.hid hb1; clear hb1
      go_wp2_with fail
      refine (CM.out _ HB1.out).mono ?_
      rintro e w2 ⟨rfl, rfl⟩
      go_wp2
      go_ret
      exact ⟨rfl, HB1.out⟩
    · have hne0 : ((L.length : Int) == 0) = false := beq_eq_false_iff_ne.2 (by omega)
      have CW : Hid (∀ W, Below w.heap.size w W → Calls Try.prog 14 #[v] W fun e w' => ∃ u, e = .returned u ∧ OwnW W.heap.size w' u (wholeL L) ∧ Below W.heap.size W w') := fun W hW => whole_any L v W h60 (fun x hx => ⟨h600 x hx, (hel x hx).2⟩) (hsl.below hW)
      have hwl : (wholeL L).length ≤ 48 := by rw [wholeL_len]; omega
      have hwl1 : 1 ≤ (wholeL L).length := by rw [wholeL_len]; omega
      have hwok := wholeL_ok L
      have CP : Hid (∀ W u, SlW W u (wholeL L) → Calls Try.prog 11 #[.int .u64 (seq : Int), u] W fun e w' => ∃ v, e = .returned (.tuple #[v, .int .i64 0]) ∧ OwnS W.heap.size w' v (packL seq (wholeL L)) ∧ Below W.heap.size W w') := fun W u h => by
        have := pack_any seq (wholeL L) u W hseq (by omega) (fun x hx => maxLen_of (by rw [(wholeL_ok L x hx).2.2]; omega)) h
        rw [pk_whole seq L (by omega)] at this; exact this
      obtain ⟨ao, c, hv, _⟩ := hsl
      generalize wholeL L = M at *
      generalize L.length = ll at *
      subst hv
      clear hsm hel hlen h600 h0
      obtain ⟨k, hk, hpick⟩ := pick_nat at_ (M.length + 1) (by omega)
      obtain ⟨m, hm, hpick2⟩ := pick_nat place 256 (by omega)
      have CPK : Hid (∀ W, Calls Try.prog 15 #[.int .i64 at_, .int .i64 ((M.length : Int) + 1)] W fun e w' => e = .returned (.int .i64 (k : Int)) ∧ W = w') := fun W => by
        have := pick_any at_ ((M.length : Int) + 1) W hat (by omega)
        have e : pickI at_ ((M.length : Int) + 1) = (k : Int) := by rw [← hpick]; simp
        rw [e] at this; exact this
      have CPM : Hid (∀ W, Calls Try.prog 15 #[.int .i64 place, .int .i64 256] W fun e w' => e = .returned (.int .i64 (m : Int)) ∧ W = w') := fun W => by
        have := pick_any place 256 W hpl (by omega)
        have e : pickI place 256 = (m : Int) := hpick2
        rw [e] at this; exact this
      have hkl : k < (packL seq M).length := by rw [packL_len]; exact hk
      obtain ⟨s, hs⟩ : ∃ s, (packL seq M)[k]? = some s := ⟨_, List.getElem?_eq_getElem hkl⟩
      have hsz : s.size = 256 := packL_sizes seq M hwl hwok s (by obtain ⟨h1, h2⟩ := List.getElem?_eq_some_iff.1 hs; rw [← h2]; exact List.getElem_mem h1)
      have HT : Hid (∀ c : UInt8, c ≠ s.data.toList.getD m 0 → ¬ (k = 0 ∧ 12 ≤ m ∧ m < 16) → (unp ((packL seq M).set k (bs (s.data.toList.set m c)))).2.2 ≠ 0) := fun c h1 h2 => torn seq M k m c s hseq hwl1 hwl hwok hk hm hs h1 h2
      have HPS : Hid (∀ c : UInt8, ∀ d ∈ (packL seq M).set k (bs (s.data.toList.set m c)), d.size ≤ maxLen) := fun c d hd => by
        rcases List.mem_or_eq_of_mem_set hd with h | h
        · exact maxLen_of (by rw [packL_sizes seq M hwl hwok d h]; omega)
        · rw [h, bs_len, List.length_set, str_len, hsz]; exact maxLen_of (by omega)
      have HPL := Lib.hid (packL_len seq M)
      have HS := Lib.hid hs
      clear hs hkl hwok hpick hpick2
      generalize packL seq M = pl at *
      obtain ⟨n, hn⟩ : ∃ n, M.length = n := ⟨_, rfl⟩
      rw [hn] at hwl hwl1 HPL hk CPK
      have HN := Lib.hid hn; clear hn
      go_enter Try.func6, Try.ntmps6
      go_wp2_with fail
      refine CS.out.mono ?_
      rintro e w1 ⟨rfl, hb1⟩
      have HB1 := Lib.hid hb1; clear hb1 CS
      go_wp2_with fail
      refine (CM.out _ HB1.out).mono ?_
      rintro e w2 ⟨rfl, rfl⟩
      go_wp2_with fail
      refine (CW.out _ HB1.out).mono ?_
      rintro e w3 ⟨u3, rfl, ho3, hb3⟩
      have HB3 := Lib.hid (HB1.out.trans (hb3.mono HB1.out.size))
      have HO3 := Lib.hid ho3.sl
      clear hb3 ho3 HB1 CW CM
      go_wp2_with fail
      refine (CP.out _ _ HO3.out).mono ?_
      rintro e w4 ⟨u4, rfl, ho4, hb4⟩
      have HB4 := Lib.hid (HB3.out.trans (hb4.mono HB3.out.size))
      obtain ⟨g, c4, hv4, hc4, hgg, hg4, hst4, hfr4⟩ := ho4.here (by rw [HPL.out]; omega)
      rw [HPL.out] at hv4 hc4
      subst hv4
      have HO4 := Lib.hid ho4
      have hgw : w.heap.size ≤ g := Nat.le_trans HB3.out.size hgg
      have hb3s := HB3.out.size
      have qk := hst4.at? HS.out
      rw [Nat.zero_add] at qk
      have fk := hfr4 k
      clear hb4 ho4 hst4 hfr4 HO3 CP HB3
      go_wp2_with fail
      refine (CPK.out _).mono ?_
      rintro e w5 ⟨rfl, rfl⟩
      go_wp2_with fail
      refine (CPM.out _).mono ?_
      rintro e w5 ⟨rfl, rfl⟩
      have i1 : (k : Int) < (n : Int) + 1 := by omega
      obtain ⟨cap, W2, hnew, hrow, hb2⟩ := bytes_new w4 s
      rw [hsz] at hnew
      have hg2 : w4.heap.size < W2.heap.size := by
        have := World.block_lt_of_cell? W2 _ (hrow 0 (by rw [str_len]; omega)).1
        exact this
      have HB2 := Lib.hid hb2
      have hml : m < s.data.toList.length := by rw [str_len]; omega
      have cm := (hrow m hml).1
      have fm := (hrow m hml).2
      have HR := Lib.hid hrow
      clear hrow hb2
      have i2 : (m : Int) < 256 := by omega
      obtain ⟨gb, hgb⟩ : ∃ gb, w4.heap.size = gb := ⟨_, rfl⟩
      have hggb : g ≠ gb := by omega
      rw [hgb] at hnew cm fm HR hg2
      have HGB := Lib.hid hgb; clear hgb
      have HR3 : Hid (FRow (W2.setCell ⟨gb, m, none⟩ (.int .u8 (tb % 256))) gb (s.data.toList.set m (byteOf tb))) := by
        have := HR.out.put m hml (byteOf tb)
        rw [byteOf_val] at this
        exact this
      have qk2 := (HB2.out.cell (p := ⟨g, k, none⟩) hg4).trans qk
      have fk2 := (HB2.out.frozen (p := ⟨g, k, none⟩) hg4).trans fk
      have qk3 := cell_other (u := .int .u8 (tb % 256)) (j := m) qk2 hggb
      have fk3 : (W2.setCell ⟨gb, m, none⟩ (.int .u8 (tb % 256))).frozen? ⟨g, k, none⟩ = false := by rw [World.frozen?_setCell]; exact fk2
      have HO5 : Hid (OwnS w.heap.size (W2.setCell ⟨gb, m, none⟩ (.int .u8 (tb % 256))) (.slice (some ⟨g, 0, none⟩) (n + 1) c4) pl) :=
        ownsRow_setCell_other (own_mono (HO4.out.below HB2.out) hb3s) (by simp [Value.ownBlock]; omega) _
      have HB5 : Hid (Below w.heap.size w (W2.setCell ⟨gb, m, none⟩ (.int .u8 (tb % 256)))) := (HB4.out.trans (HB2.out.mono HB4.out.size)).setCell (by rw [← HGB.out]; exact HB4.out.size) _
      have hz5 : gb < (W2.setCell ⟨gb, m, none⟩ (.int .u8 (tb % 256))).heap.size := by simp [World.setCell]; exact hg2
      go_wp2_with fail
      clear hnew cm fm qk fk qk2 fk2 HR HO4 HB4 HB2
      generalize W2.setCell ⟨gb, m, none⟩ (.int .u8 (tb % 256)) = W3 at *
      have hconv : ∀ j, (convert 34 9 (.slice (some ⟨gb, 0, none⟩) 256 cap)).run Try.prog (W3.drewN j) = .ok (.string (bs (s.data.toList.set m (byteOf tb)))) (W3.drewN j) := fun j => by
        have := FRow.text (cap := cap) (HR3.out.drewN j)
        rw [List.length_set, str_len, hsz] at this
        exact this
      by_cases hc : byteOf tb = s.data.toList.getD m 0
      · have e : bs (s.data.toList.set m (byteOf tb)) = s := by
          rw [hc, getD_at _ m hml, List.set_getElem_self, bs_data]
        rw [e] at hconv
        have hq := str_same (a := s) (b := s) rfl
        go_quiet (fail)
        go_wp2
        go_ret
        exact ⟨rfl, below_drewN HB5.out _⟩
      · have hdiff : bs (s.data.toList.set m (byteOf tb)) ≠ s := by
          intro e
          have e2 := congrArg (fun z : ByteArray => z.data.toList.getD m 0) e
          simp only [data_bs] at e2
          rw [getD_set_same _ m _ hml] at e2
          exact hc e2
        have hq := str_diff hdiff
        have HT2 := Lib.hid (fun h => HT.out (byteOf tb) hc h)
        have HPS2 := Lib.hid (HPS.out (byteOf tb))
        clear hdiff hc HT HPS
        generalize bs (s.data.toList.set m (byteOf tb)) = N at *
        by_cases hin : k = 0 ∧ 12 ≤ m ∧ m < 16
        · obtain ⟨rfl, hm1, hm2⟩ := hin
          have j1 : (12 : Int) ≤ (m : Int) := by omega
          have j2 : (m : Int) < 16 := by omega
          go_quiet (fail)
          go_wp2
          go_ret
          exact ⟨rfl, below_drewN HB5.out _⟩
        · obtain ⟨er, her, hun1, hun2⟩ := unp_torn (HT2.out hin)
          have CU : Hid (∀ W u, SlS W u (pl.set k N) → Calls Try.prog 17 #[u] W fun e w' => ∃ a v, e = .returned (.tuple #[.int .u64 a, v, .int .i64 (er : Int)]) ∧ OwnW W.heap.size w' v [] ∧ Below W.heap.size W w') := fun W u h => by
            have := unpack_any _ u W (by rw [List.length_set, HPL.out]; omega) HPS2.out h
            rw [hun1, hun2] at this
            exact this.mono fun e w' ⟨v, he, ho, hb⟩ => ⟨_, v, he, ho, hb⟩
          have hne : ((er : Int) != 0) = true := by simp; omega
          have HST : Hid (∀ j, OwnS w.heap.size ((W3.drewN j).setCell ⟨g, k, none⟩ (.string N)) (.slice (some ⟨g, 0, none⟩) (n + 1) c4) (pl.set k N)) := fun j => by
            have h5 : OwnS w.heap.size (W3.drewN j) (.slice (some ⟨g, 0, none⟩) (n + 1) c4) pl := HO5.out
            rw [← HPL.out] at h5 ⊢
            exact h5.store k N
          have hcase : k ≠ 0 ∨ (k = 0 ∧ m < 12) ∨ (k = 0 ∧ 12 ≤ m ∧ 16 ≤ m) := by omega
          clear hin hun1 hun2 her HT2 HPS2
          rcases hcase with hk0 | ⟨rfl, hm1⟩ | ⟨rfl, hm1, hm2⟩
          · have j0 : ((k : Int) == 0) = false := beq_eq_false_iff_ne.2 (by omega)
            go_quiet (fail)
            go_wp2_with fail
            refine (CU.out _ _ (HST.out _).sl).mono ?_
            rintro e w7 ⟨a7, u7, rfl, ho7, hb7⟩
            have HB6 := below_drewN HB5.out
            have HB7 : Hid (Below w.heap.size w w7) := ((HB6 _).setCell hgw _).trans (hb7.mono (by have := HB5.out.size; simpa [World.setCell] using this))
            obtain ⟨ao7, c7, hv7, _⟩ := ho7.sl
            simp only [List.length_nil] at hv7
            subst hv7
            clear ho7 hb7 HB6
            go_wp2
            go_ret
            exact ⟨rfl, HB7.out⟩
          · have j1 : decide ((12 : Int) ≤ (m : Int)) = false := decide_eq_false (by omega)
            go_quiet (fail)
            go_wp2_with fail
            refine (CU.out _ _ (HST.out _).sl).mono ?_
            rintro e w7 ⟨a7, u7, rfl, ho7, hb7⟩
            have HB6 := below_drewN HB5.out
            have HB7 : Hid (Below w.heap.size w w7) := ((HB6 _).setCell hgw _).trans (hb7.mono (by have := HB5.out.size; simpa [World.setCell] using this))
            obtain ⟨ao7, c7, hv7, _⟩ := ho7.sl
            simp only [List.length_nil] at hv7
            subst hv7
            clear ho7 hb7 HB6
            go_wp2
            go_ret
            exact ⟨rfl, HB7.out⟩
          · have j1 : (12 : Int) ≤ (m : Int) := by omega
            have j2 : decide ((m : Int) < 16) = false := decide_eq_false (by omega)
            go_quiet (fail)
            go_wp2_with fail
            refine (CU.out _ _ (HST.out _).sl).mono ?_
            rintro e w7 ⟨a7, u7, rfl, ho7, hb7⟩
            have HB6 := below_drewN HB5.out
            have HB7 : Hid (Below w.heap.size w w7) := ((HB6 _).setCell hgw _).trans (hb7.mono (by have := HB5.out.size; simpa [World.setCell] using this))
            obtain ⟨ao7, c7, hv7, _⟩ := ho7.sl
            simp only [List.length_nil] at hv7
            subst hv7
            clear ho7 hb7 HB6
            go_wp2
            go_ret
            exact ⟨rfl, HB7.out⟩
end Go.Proofs.Ytkailodeojbnhaa
