/- FrameReads, walked: for any texts, any number, any writes, any place and any byte it answers true. -/
import Derived.Test.YtkailodeojbnhaaFReads
namespace Go.Proofs.Ytkailodeojbnhaa
open Go.RowKit

theorem pk_sizes (seq : Nat) (L : List (Int × ByteArray)) : ∀ d ∈ (pk seq L).1, d.size = 256 := by
  intro d hd
  unfold pk at hd
  by_cases hc : chk L = 0
  · rw [if_pos hc] at hd
    obtain ⟨h1, h2, h3⟩ := (chk_ok L).1 hc
    exact packL_sizes seq L h2 h3 d hd
  · rw [if_neg hc] at hd; cases hd
theorem pk_len' (seq : Nat) (L : List (Int × ByteArray)) : (pk seq L).1.length ≤ 49 := by
  unfold pk
  by_cases hc : chk L = 0
  · rw [if_pos hc]
    have := ((chk_ok L).1 hc).2.1
    show (packL seq L).length ≤ 49
    rw [packL_len]; omega
  · rw [if_neg hc]; simp

set_option maxRecDepth 100000 in
set_option maxHeartbeats 8000000 in
theorem reads_walk (lv : Value) (seq : Nat) (v : Value) (at_ tb : Int) (D : List ByteArray) (L : List (Int × ByteArray)) (w : World) (hA2 : StsA w lv D) (hseq : seq < 18446744073709551616) (hA : WrsA w v L) (hat : -9223372036854775808 ≤ at_ ∧ at_ ≤ 9223372036854775807) (_htb : -9223372036854775808 ≤ tb ∧ tb ≤ 9223372036854775807) :
    Calls Try.prog 4 #[lv, .int .u64 (seq : Int), v, .int .i64 at_, .int .i64 tb] w fun e w' => e = .returned (.bool true) ∧ Below w.heap.size w w' := by
  obtain ⟨hsl, hlen, hel⟩ := hA
  obtain ⟨hds, hdl, hde, hdn⟩ := hA2
  have CS := Lib.hid (shown_any w)
  have CM : Hid (∀ W, Below w.heap.size w W → Calls Try.prog 10 #[v] W fun e w' => e = .returned (.bool (smallW L)) ∧ W = w') := fun W hW => small_any L v W hlen (fun x hx => (hel x hx).1) (hsl.below hW)
  have HDS := Lib.hid hds
  have HDN := Lib.hid hdn
  have HDE := Lib.hid hde
  obtain ⟨ao2, c2, hmv, _, hcell⟩ := hds
  unfold maxLen at hdl
  clear hde hdn
  cases hsm : smallW L with
  | false =>
    rw [hsm] at CM
    clear hsm hsl hel hlen hcell HDS HDN HDE
    generalize D.length = dl at *
    subst hmv
    go_enter Try.func4, Try.ntmps4
    go_wp2_with fail
    refine CS.out.mono ?_
    rintro e w1 ⟨rfl, hb1⟩
    have HB1 := Lib.hid hb1; clear hb1
    go_wp2_with fail
    refine (CM.out _ HB1.out).mono ?_
    rintro e w2 ⟨rfl, rfl⟩
    go_wp2
    go_ret
    exact ⟨rfl, HB1.out⟩
  | true =>
    rw [hsm] at CM
    obtain ⟨h60, h600⟩ := (smallW_iff L).1 hsm
    by_cases hd60 : 60 < D.length
    · have i1 : (60 : Int) < (D.length : Int) := by omega
      clear hsm hsl hel hlen hd60 HDS HDN HDE hcell
      generalize D.length = dl at *
      subst hmv
      go_enter Try.func4, Try.ntmps4
      go_wp2_with fail
      refine CS.out.mono ?_
      rintro e w1 ⟨rfl, hb1⟩
      have HB1 := Lib.hid hb1; clear hb1
      go_wp2_with fail
      refine (CM.out _ HB1.out).mono ?_
      rintro e w2 ⟨rfl, rfl⟩
      go_wp2
      go_ret
      exact ⟨rfl, HB1.out⟩
    · have i1 : ¬ (60 : Int) < (D.length : Int) := by omega
      have CW : Hid (∀ W, Below w.heap.size w W → Calls Try.prog 14 #[v] W fun e w' => ∃ u, e = .returned u ∧ OwnW W.heap.size w' u (wholeL L) ∧ Below W.heap.size W w') := fun W hW => whole_any L v W h60 (fun x hx => ⟨h600 x hx, (hel x hx).2⟩) (hsl.below hW)
      have hwl : (wholeL L).length ≤ 48 := by rw [wholeL_len]; omega
      have CP : Hid (∀ W u, SlW W u (wholeL L) → Calls Try.prog 12 #[.int .u64 (seq : Int), u] W fun e w' => ∃ v, e = .returned (.tuple #[v, .int .i64 (((pk seq (wholeL L)).2 : Nat) : Int)]) ∧ OwnS W.heap.size w' v (pk seq (wholeL L)).1 ∧ Below W.heap.size W w') := fun W u h => rpack_any seq (wholeL L) u W hseq (by omega) (fun x hx => maxLen_of (by rw [(wholeL_ok L x hx).2.2]; omega)) h
      have hps := pk_sizes seq (wholeL L)
      have hpl := pk_len' seq (wholeL L)
      generalize pk seq (wholeL L) = pk' at *
      obtain ⟨pl, per⟩ := pk'
      simp only at CP hps hpl
      have HPS := Lib.hid hps; clear hps
      have HCD : Hid (∀ k (hk : k < D.length), ∃ b off, ao2 = some ⟨b, off, none⟩ ∧ b < w.heap.size ∧ w.cell? ⟨b, off + k, none⟩ = some (.string D[k])) := by
        intro k hk
        rcases hcell with rfl | ⟨b, off, e, hb, hw⟩
        · simp at hk
        · exact ⟨b, off, e, hb, hw k hk⟩
      have CRD : Hid (∀ W u, SlS W u D → Calls Try.prog 16 #[u] W fun e w' => e = .returned (.bool true) ∧ Below W.heap.size W w') := fun W u h => reads_any D u W (by omega) HDE.out h
      have CRP : Hid (∀ W u P, P.length ≤ 49 → (∀ d ∈ P, d.size = 256) → SlS W u (P ++ D) → Calls Try.prog 16 #[u] W fun e w' => e = .returned (.bool true) ∧ Below W.heap.size W w') := fun W u P hP hPs h => reads_any (P ++ D) u W (by rw [List.length_append]; omega) (fun d hd => by
        rcases List.mem_append.1 hd with hd | hd
        · exact maxLen_of (by rw [hPs d hd]; omega)
        · exact HDE.out d hd) h
      obtain ⟨m, hm, hpick2⟩ := pick_nat at_ 256 (by omega)
      have CPM : Hid (∀ W, Calls Try.prog 15 #[.int .i64 at_, .int .i64 256] W fun e w' => e = .returned (.int .i64 (m : Int)) ∧ W = w') := fun W => by
        have := pick_any at_ 256 W hat (by omega)
        have e : pickI at_ 256 = (m : Int) := hpick2
        rw [e] at this; exact this
      have hdl60 : D.length ≤ 60 := by omega
      clear hsm hel hlen h600 hsl hcell hpick2 hdl hd60 hwl
      obtain ⟨dl, hdl⟩ : ∃ dl, D.length = dl := ⟨_, rfl⟩
      rw [hdl] at i1 hmv hdl60
      have HDL := Lib.hid hdl; clear hdl
      have HDNN : Hid (∀ n c, (Value.slice ao2 dl c2) = .slice none n c → c = 0) := by
        have := HDN.out
        rw [hmv] at this
        exact this
      have HDSS : Hid (SlS w (.slice ao2 dl c2) D) := by
        have := HDS.out
        rw [hmv] at this
        exact this
      clear HDN HDS
      subst hmv
      go_enter Try.func4, Try.ntmps4
      go_wp2_with fail
      refine CS.out.mono ?_
      rintro e w1 ⟨rfl, hb1⟩
      have HB1 := Lib.hid hb1; clear hb1 CS
      go_wp2_with fail
      refine (CM.out _ HB1.out).mono ?_
      rintro e w2 ⟨rfl, rfl⟩
      go_wp2_with fail
      go_loop [13] (fun i => ∃ k : Nat, k ≤ dl ∧ i = .int .i64 k) (fun i => dl - (intOf i).toNat)
      case atStart => exact ⟨0, Nat.zero_le _, rfl⟩
      case round =>
        obtain ⟨k, hk, rfl⟩ := hrel
        by_cases hlt : k < dl
        · have hkD : k < D.length := by rw [HDL.out]; exact hlt
          obtain ⟨b, off, rfl, hb, c0⟩ := HCD.out k hkD
          have c1 := (HB1.out.cell (p := ⟨b, off + k, none⟩) hb).trans c0
          clear c0
          have hdz := HDE.out D[k] (List.getElem_mem hkD)
          unfold maxLen at hdz
          generalize D[k] = d at *
          have i2 : (k : Int) < (dl : Int) := by omega
          by_cases h6 : (600 : Int) < (d.size : Int)
          · go_wp2
            go_ret
            exact ⟨rfl, HB1.out⟩
          · go_wp2
            go_round
            case rel => exact ⟨k + 1, by omega, by go_num⟩
            case measure => simp [intOf]; omega
        · have i2 : ¬ (k : Int) < (dl : Int) := by omega
          go_wp2_with fail
          refine (CW.out _ HB1.out).mono ?_
          rintro e w3 ⟨u3, rfl, ho3, hb3⟩
          have HB3 := Lib.hid (HB1.out.trans (hb3.mono HB1.out.size))
          have HO3 := Lib.hid ho3.sl
          clear hb3 ho3 HB1 CW CM
          go_wp2_with fail
          refine (CP.out _ _ HO3.out).mono ?_
          rintro e w4 ⟨u4, rfl, ho4, hb4⟩
          have HB4 := Lib.hid (HB3.out.trans (hb4.mono HB3.out.size))
          have HO4 := Lib.hid ho4
          have hb3s := HB3.out.size
          clear hb4 HO3 CP
          by_cases hp0 : pl.length = 0
          · have e : pl = [] := List.eq_nil_of_length_eq_zero hp0
            subst e
            obtain ⟨ao4, c4, hv4, _⟩ := ho4.sl
            simp only [List.length_nil] at hv4
            subst hv4
            clear ho4 hp0
            have hbr := HB4.out.size
            have HSD := Lib.hid (HDSS.out.below HB4.out)
            go_wp2_with fail
            refine (CRD.out _ _ HSD.out).mono ?_
            rintro e w5 ⟨rfl, hb5⟩
            have HB5 := Lib.hid (HB4.out.trans (hb5.mono HB4.out.size))
            have HO5 := Lib.hid (HO4.out.below hb5)
            have HSD5 := Lib.hid (HSD.out.below hb5)
            clear hb5
            go_wp2_with (at_builtin; refine wpList_append_sl rfl (.tmp 79) (.tmp 80) rfl w5.heap.size _ [] rfl (ownS_empty w5) _ [] rfl (HO5.out.sl.below ((Below.refl _ _).alloc (Nat.le_refl _) _)) HO5.out.nilcap ?c1 ?c2 ?_)
            case c1 => simp
            case c2 => simp
            intro v6 w6 ho6 hg6
            have HB6 : Hid (Below w5.heap.size w5 w6) := ((Below.refl _ _).alloc (Nat.le_refl _) _).grown hg6 (by simp) (fun k hk => by simp [Value.ownBlock] at hk; omega)
            have HO6 := Lib.hid ho6
            have hb6 := HB6.out.size
            clear ho6 hg6
            have HSD6 := Lib.hid (HSD5.out.below HB6.out)
            go_wp2_with (at_builtin; refine wpList_append_sl rfl (.tmp 81) (.tmp 82) rfl w5.heap.size _ [] rfl HO6.out _ D rfl HSD6.out HDNN.out ?d1 ?d2 ?_)
            case d1 => rw [HDL.out]; simp; omega
            case d2 => omega
            intro v7 w7 ho7 hg7
            have HB7 : Hid (Below w5.heap.size w5 w7) := HB6.out.grown hg7 hb6 (fun k hk => (HO6.out.lt k hk).1)
            have HO7 : Hid (SlS w7 v7 ([] ++ D)) := ho7.sl
            clear ho7 hg7
            go_wp2_with fail
            refine (CRP.out _ _ [] (by simp) (fun d hd => by cases hd) HO7.out).mono ?_
            rintro e w8 ⟨rfl, hb8⟩
            have HB8 := Lib.hid (HB5.out.trans ((HB7.out.trans (hb8.mono HB7.out.size)).mono HB5.out.size))
            clear hb8
            go_wp2
            go_ret
            exact ⟨rfl, HB8.out⟩
          · obtain ⟨g, c4, hv4, hc4, hgg, hg4, hst4, hfr4⟩ := ho4.here (by omega)
            obtain ⟨kk, hkk, hpick⟩ := pick_nat at_ pl.length (by omega)
            have CPK : Hid (∀ W, Calls Try.prog 15 #[.int .i64 at_, .int .i64 (pl.length : Int)] W fun e w' => e = .returned (.int .i64 (kk : Int)) ∧ W = w') := fun W => by
              have := pick_any at_ (pl.length : Int) W hat (by omega)
              rw [hpick] at this; exact this
            obtain ⟨s, hs⟩ : ∃ s, pl[kk]? = some s := ⟨_, List.getElem?_eq_getElem hkk⟩
            have hsz : s.size = 256 := HPS.out s (by obtain ⟨h1, h2⟩ := List.getElem?_eq_some_iff.1 hs; rw [← h2]; exact List.getElem_mem h1)
            have qk := hst4.at? hs
            rw [Nat.zero_add] at qk
            have fk := hfr4 kk
            obtain ⟨pn, hpn⟩ : ∃ pn, pl.length = pn := ⟨_, rfl⟩
            have HPN := Lib.hid hpn
            rw [hpn] at hv4 hc4 hkk CPK hp0 hpl
            subst hv4
            clear ho4 hst4 hfr4 hpn hpick hs
            have hgw : w.heap.size ≤ g := Nat.le_trans hb3s hgg
            have j1 : (0 : Int) < (pn : Int) := by omega
            have j2 : (kk : Int) < (pn : Int) := by omega
            have j3 : (m : Int) < 256 := by omega
            obtain ⟨cap, W2, hnew, hrow, hb2⟩ := bytes_new w4 s
            rw [hsz] at hnew
            have hg2 : w4.heap.size < W2.heap.size := World.block_lt_of_cell? W2 _ (hrow 0 (by rw [str_len]; omega)).1
            have HB2 := Lib.hid hb2
            have hml : m < s.data.toList.length := by rw [str_len]; omega
            have cm := (hrow m hml).1
            have fm := (hrow m hml).2
            have HR := Lib.hid hrow
            clear hrow hb2
            obtain ⟨gb, hgb⟩ : ∃ gb, w4.heap.size = gb := ⟨_, rfl⟩
            have hggb : g ≠ gb := by omega
            rw [hgb] at hnew cm fm HR hg2
            have HGB := Lib.hid hgb; clear hgb
            have HR3 : Hid (FRow (W2.setCell ⟨gb, m, none⟩ (.int .u8 (tb % 256))) gb (s.data.toList.set m (byteOf tb))) := by
              have := HR.out.put m hml (byteOf tb)
              rw [byteOf_val] at this
              exact this
            have qk2 := (HB2.out.cell (p := ⟨g, kk, none⟩) hg4).trans qk
            have fk2 := (HB2.out.frozen (p := ⟨g, kk, none⟩) hg4).trans fk
            have qk3 := cell_other (u := .int .u8 (tb % 256)) (j := m) qk2 hggb
            have fk3 : (W2.setCell ⟨gb, m, none⟩ (.int .u8 (tb % 256))).frozen? ⟨g, kk, none⟩ = false := by rw [World.frozen?_setCell]; exact fk2
            have HO5 : Hid (OwnS w.heap.size (W2.setCell ⟨gb, m, none⟩ (.int .u8 (tb % 256))) (.slice (some ⟨g, 0, none⟩) pn c4) pl) :=
              ownsRow_setCell_other (own_mono (HO4.out.below HB2.out) hb3s) (by simp [Value.ownBlock]; omega) _
            have HB5 : Hid (Below w.heap.size w (W2.setCell ⟨gb, m, none⟩ (.int .u8 (tb % 256)))) := (HB4.out.trans (HB2.out.mono HB4.out.size)).setCell (by rw [← HGB.out]; exact HB4.out.size) _
            have hconv : (convert 34 9 (.slice (some ⟨gb, 0, none⟩) 256 cap)).run Try.prog (W2.setCell ⟨gb, m, none⟩ (.int .u8 (tb % 256))) = .ok (.string (bs (s.data.toList.set m (byteOf tb)))) (W2.setCell ⟨gb, m, none⟩ (.int .u8 (tb % 256))) := by
              have := FRow.text (cap := cap) HR3.out
              rw [List.length_set, str_len, hsz] at this
              exact this
            have hNs : (bs (s.data.toList.set m (byteOf tb))).size = 256 := by rw [bs_len, List.length_set, str_len, hsz]
            have HHid := Lib.hid hconv
            have Hq3 := Lib.hid qk3
            have Hf3 := Lib.hid fk3
            clear hconv qk3 fk3 qk2 fk2 HB2 HR HO4 HB4
            generalize bs (s.data.toList.set m (byteOf tb)) = N at *
            go_wp2_with fail
            refine (CPK.out _).mono ?_
            rintro e w5 ⟨rfl, rfl⟩
            go_wp2_with fail
            refine (CPM.out _).mono ?_
            rintro e w5 ⟨rfl, rfl⟩
            have hconv := HHid.out
            have qk3 := Hq3.out
            have fk3 := Hf3.out
            go_wp2_with fail
            have HO6 : Hid (OwnS w.heap.size ((W2.setCell ⟨gb, m, none⟩ (.int .u8 (tb % 256))).setCell ⟨g, kk, none⟩ (.string N)) (.slice (some ⟨g, 0, none⟩) pn c4) (pl.set kk N)) := by
              have h5 := HO5.out
              rw [← HPN.out] at h5 ⊢
              exact h5.store kk N
            have HB6 : Hid (Below w.heap.size w ((W2.setCell ⟨gb, m, none⟩ (.int .u8 (tb % 256))).setCell ⟨g, kk, none⟩ (.string N))) := HB5.out.setCell hgw _
            have HPL : Hid ((pl.set kk N).length ≤ 49) := by rw [List.length_set, HPN.out]; exact hpl
            have HPZ : Hid (∀ d ∈ pl.set kk N, d.size = 256) := fun d hd => by
              rcases List.mem_or_eq_of_mem_set hd with h | h
              · exact HPS.out d h
              · rw [h]; exact hNs
            clear hconv qk3 fk3 HHid Hq3 Hf3 HO5 HB5 hnew cm fm qk fk HR3 hNs
            generalize (W2.setCell ⟨gb, m, none⟩ (.int .u8 (tb % 256))).setCell ⟨g, kk, none⟩ (.string N) = w9 at *
            generalize pl.set kk N = pl2 at *
            have HSD := Lib.hid (HDSS.out.below HB6.out)
            refine (CRD.out _ _ HSD.out).mono ?_
            rintro e w5 ⟨rfl, hb5⟩
            have HBx := Lib.hid (HB6.out.trans (hb5.mono HB6.out.size))
            have HOx := Lib.hid (HO6.out.below hb5)
            have HSD5 := Lib.hid (HSD.out.below hb5)
            clear hb5
            go_wp2_with (at_builtin; refine wpList_append_sl rfl (.tmp 79) (.tmp 80) rfl w5.heap.size _ [] rfl (ownS_empty w5) _ pl2 rfl (HOx.out.sl.below ((Below.refl _ _).alloc (Nat.le_refl _) _)) HOx.out.nilcap ?e1 ?e2 ?_)
            case e1 => have := HPL.out; simp; omega
            case e2 => simp
            intro v6 w6 ho6 hg6
            have HBy : Hid (Below w5.heap.size w5 w6) := ((Below.refl _ _).alloc (Nat.le_refl _) _).grown hg6 (by simp) (fun k hk => by simp [Value.ownBlock] at hk; omega)
            have HOy := Lib.hid ho6
            have hby := HBy.out.size
            clear ho6 hg6
            have HSD6 := Lib.hid (HSD5.out.below HBy.out)
            go_wp2_with (at_builtin; refine wpList_append_sl rfl (.tmp 81) (.tmp 82) rfl w5.heap.size _ pl2 rfl HOy.out _ D rfl HSD6.out HDNN.out ?f1 ?f2 ?_)
            case f1 => have := HPL.out; rw [HDL.out]; omega
            case f2 => omega
            intro v7 w7 ho7 hg7
            have HB7 : Hid (Below w5.heap.size w5 w7) := HBy.out.grown hg7 hby (fun k hk => (HOy.out.lt k hk).1)
            have HO7 : Hid (SlS w7 v7 (pl2 ++ D)) := ho7.sl
            clear ho7 hg7
            go_wp2_with fail
            refine (CRP.out _ _ pl2 HPL.out HPZ.out HO7.out).mono ?_
            rintro e w8 ⟨rfl, hb8⟩
            have HB8 := Lib.hid (HBx.out.trans ((HB7.out.trans (hb8.mono HB7.out.size)).mono HBx.out.size))
            clear hb8
            go_wp2
            go_ret
            exact ⟨rfl, HB8.out⟩
end Go.Proofs.Ytkailodeojbnhaa
