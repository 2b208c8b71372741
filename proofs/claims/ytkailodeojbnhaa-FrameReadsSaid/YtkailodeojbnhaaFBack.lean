/- FrameBack, walked: for any number, any writes and any blocks behind it answers true. -/
import Derived.Test.YtkailodeojbnhaaFMore
namespace Go.Proofs.Ytkailodeojbnhaa
open Go.RowKit

theorem ownS_empty (w : World) : OwnS w.heap.size (w.alloc (.cells #[] 9)) (.slice (some ⟨w.heap.size, 0, none⟩) 0 0) [] := World.ownsRow_lit w #[] 0 (Nat.le_refl _) (by unfold maxLen; omega) rfl

set_option maxRecDepth 100000 in
set_option maxHeartbeats 4000000 in
theorem back_walk (seq : Nat) (v mv : Value) (L : List (Int × ByteArray)) (D : List ByteArray) (w : World) (hseq : seq < 18446744073709551616) (hA : WrsA w v L) (hA2 : StsA w mv D) :
    Calls Try.prog 5 #[.int .u64 (seq : Int), v, mv] w fun e w' => e = .returned (.bool true) ∧ Below w.heap.size w w' := by
  obtain ⟨hsl, hlen, hel⟩ := hA
  obtain ⟨hds, hdl, hde, hdn⟩ := hA2
  have CS := Lib.hid (shown_any w)
  have CM : Hid (∀ W, Below w.heap.size w W → Calls Try.prog 10 #[v] W fun e w' => e = .returned (.bool (smallW L)) ∧ W = w') := fun W hW => small_any L v W hlen (fun x hx => (hel x hx).1) (hsl.below hW)
  have HDS := Lib.hid hds
  have HDN := Lib.hid hdn
  have HDE := Lib.hid hde
  obtain ⟨ao2, c2, hmv, _⟩ := hds
  unfold maxLen at hdl
  clear hde hdn
  cases hsm : smallW L with
  | false =>
    rw [hsm] at CM
    clear hsm hsl hel hlen
    generalize D.length = dl at *
    subst hmv
    go_enter Try.func5, Try.ntmps5
    go_wp2_with fail
    refine CS.out.mono ?_
    rintro e w1 ⟨rfl, hb1⟩
    have HB1 := Lib.hid hb1; clear hb1
    go_wp2_with fail
    refine (CM.out _ HB1.out).mono ?_
    rintro e w2 ⟨rfl, rfl⟩
    go_wp2
    go_ret
    exact ⟨rfl, HB1.out⟩
  | true =>
    rw [hsm] at CM
    obtain ⟨h60, h600⟩ := (smallW_iff L).1 hsm
    by_cases hd60 : 60 < D.length
    · have i1 : (60 : Int) < (D.length : Int) := by omega
      clear hsm hsl hel hlen hd60 HDS
      generalize D.length = dl at *
      subst hmv
      go_enter Try.func5, Try.ntmps5
      go_wp2_with fail
      refine CS.out.mono ?_
      rintro e w1 ⟨rfl, hb1⟩
      have HB1 := Lib.hid hb1; clear hb1
      go_wp2_with fail
      refine (CM.out _ HB1.out).mono ?_
      rintro e w2 ⟨rfl, rfl⟩
      go_wp2
      go_ret
      exact ⟨rfl, HB1.out⟩
    · have i1 : ¬ (60 : Int) < (D.length : Int) := by omega
      have CW : Hid (∀ W, Below w.heap.size w W → Calls Try.prog 14 #[v] W fun e w' => ∃ u, e = .returned u ∧ OwnW W.heap.size w' u (wholeL L) ∧ Below W.heap.size W w') := fun W hW => whole_any L v W h60 (fun x hx => ⟨h600 x hx, (hel x hx).2⟩) (hsl.below hW)
      have hwl : (wholeL L).length ≤ 48 := by rw [wholeL_len]; omega
      have hwok := wholeL_ok L
      have hP := fun W u h => pack_any seq (wholeL L) u W hseq (by omega) (fun x hx => maxLen_of (by rw [(wholeL_ok L x hx).2.2]; omega)) h
      have hpk : 1 ≤ (wholeL L).length → pk seq (wholeL L) = (packL seq (wholeL L), 0) := fun h => by
        refine pk_whole seq L ?_
        rw [wholeL_len] at h; omega
      generalize wholeL L = M at *
      clear hsm hel hlen h600 hsl
      by_cases h0 : M.length = 0
      · have e : M = [] := List.eq_nil_of_length_eq_zero h0
        subst e
        have CP : Hid (∀ W u, SlW W u [] → Calls Try.prog 11 #[.int .u64 (seq : Int), u] W fun e w' => ∃ v, e = .returned (.tuple #[v, .int .i64 6]) ∧ Below W.heap.size W w') := fun W u h => (hP W u h).mono fun e w' ⟨v, he, _, hb⟩ => ⟨v, he, hb⟩
        clear hP hpk hwok h0 HDS
        generalize D.length = dl at *
        subst hmv
        go_enter Try.func5, Try.ntmps5
        go_wp2_with fail
        refine CS.out.mono ?_
        rintro e w1 ⟨rfl, hb1⟩
        have HB1 := Lib.hid hb1; clear hb1
        go_wp2_with fail
        refine (CM.out _ HB1.out).mono ?_
        rintro e w2 ⟨rfl, rfl⟩
        go_wp2_with fail
        refine (CW.out _ HB1.out).mono ?_
        rintro e w3 ⟨u3, rfl, ho3, hb3⟩
        have HB3 := Lib.hid (HB1.out.trans (hb3.mono HB1.out.size))
        have HO3 := Lib.hid ho3.sl
        obtain ⟨ao3, c3, hv3, _⟩ := ho3.sl
        simp only [List.length_nil] at hv3
        subst hv3
        clear hb3 ho3
        go_wp2_with fail
        refine (CP.out _ _ HO3.out).mono ?_
        rintro e w4 ⟨u4, rfl, hb4⟩
        have HB4 := Lib.hid (HB3.out.trans (hb4.mono HB3.out.size))
        clear hb4
        go_wp2
        go_ret
        exact ⟨rfl, HB4.out⟩
      · have hwl1 : 1 ≤ M.length := by omega
        have CP : Hid (∀ W u, SlW W u M → Calls Try.prog 11 #[.int .u64 (seq : Int), u] W fun e w' => ∃ v, e = .returned (.tuple #[v, .int .i64 0]) ∧ OwnS W.heap.size w' v (packL seq M) ∧ Below W.heap.size W w') := fun W u h => by
          have := hP W u h
          rw [hpk hwl1] at this; exact this
        clear hP hpk
        have CU : Hid (∀ W u, SlS W u (packL seq M ++ D) → Calls Try.prog 17 #[u] W fun e w' => ∃ v, e = .returned (.tuple #[.int .u64 (seq : Int), v, .int .i64 0]) ∧ OwnW W.heap.size w' v M ∧ Below W.heap.size W w') := fun W u h => by
          have := unpack_any _ u W (by rw [List.length_append, packL_len]; omega) (fun d hd => by
            rcases List.mem_append.1 hd with hd | hd
            · exact maxLen_of (by rw [packL_sizes seq M hwl hwok d hd]; omega)
            · exact HDE.out d hd) h
          rw [unp_pack seq M D hseq hwl1 hwl hwok] at this; exact this
        have CH : Hid (∀ W, Calls Try.prog 18 #[.string (bs (topL seq M))] W fun e w' => e = .returned (.tuple #[.int .u64 (seq : Int), .int .i64 (M.length : Int), .bool true]) ∧ Below W.heap.size W w') := fun W => by
          have := head_any (bs (topL seq M)) W
          rw [hd_pack seq M hseq hwl1 hwl hwok] at this; exact this
        have HPL := Lib.hid (packL_len seq M)
        have HP0 := Lib.hid (packL_zero seq M)
        clear hwok h0 HDE
        generalize packL seq M = pl at *
        generalize bs (topL seq M) = T at *
        obtain ⟨n, hn⟩ : ∃ n, M.length = n := ⟨_, rfl⟩
        rw [hn] at hwl hwl1 CH HPL
        have HN := Lib.hid hn; clear hn
        have hne0 : ((n : Int) == 0) = false := beq_eq_false_iff_ne.2 (by omega)
        have hsq : ((seq : Int) == (seq : Int)) = true := by simp
        have hnn : ((n : Int) == (n : Int)) = true := by simp
        have HMV := Lib.hid hmv
        have hdl60 : D.length ≤ 60 := by omega
        clear hdl hd60
        obtain ⟨dl, hdl⟩ : ∃ dl, D.length = dl := ⟨_, rfl⟩
        rw [hdl] at i1 hmv hdl60
        have HDL := Lib.hid hdl; clear hdl
        subst hmv
        go_enter Try.func5, Try.ntmps5
        go_wp2_with fail
        refine CS.out.mono ?_
        rintro e w1 ⟨rfl, hb1⟩
        have HB1 := Lib.hid hb1; clear hb1 CS
        go_wp2_with fail
        refine (CM.out _ HB1.out).mono ?_
        rintro e w2 ⟨rfl, rfl⟩
        go_wp2_with fail
        refine (CW.out _ HB1.out).mono ?_
        rintro e w3 ⟨u3, rfl, ho3, hb3⟩
        have HB3 := Lib.hid (HB1.out.trans (hb3.mono HB1.out.size))
        have HO3 := Lib.hid ho3.sl
        obtain ⟨ao3, c3, hv3, _⟩ := ho3.sl
        rw [HN.out] at hv3
        subst hv3
        clear hb3 ho3 HB1 CW CM
        go_wp2_with fail
        refine (CP.out _ _ HO3.out).mono ?_
        rintro e w4 ⟨u4, rfl, ho4, hb4⟩
        have HB4 := Lib.hid (HB3.out.trans (hb4.mono HB3.out.size))
        have HO3' := Lib.hid (HO3.out.below hb4)
        have HO4 := Lib.hid ho4
        obtain ⟨g, c4, hv4, hc4, hgg, hg4, hst4, _⟩ := ho4.here (by rw [HPL.out]; omega)
        rw [HPL.out] at hv4 hc4
        subst hv4
        have q0 := hst4.at? HP0.out
        rw [Nat.add_zero] at q0
        clear hb4 ho4 hst4 HO3 CP HB3
        have hbr := HB4.out.size
        have HSD : Hid (SlS w4 (.slice ao2 dl c2) D) := HDS.out.below HB4.out
        go_wp2_with (at_builtin; refine wpList_append_sl rfl (.tmp 48) (.tmp 49) rfl w4.heap.size _ [] rfl (ownS_empty w4) _ pl rfl (HO4.out.sl.below ((Below.refl _ _).alloc (Nat.le_refl _) _)) HO4.out.nilcap ?c1 ?c2 ?_)
        case c1 => rw [HPL.out]; simp; omega
        case c2 => simp
        intro v5 w5 ho5 hg5
        have HB5 : Hid (Below w4.heap.size w4 w5) := ((Below.refl _ _).alloc (Nat.le_refl _) _).grown hg5 (by simp) (fun k hk => by simp [Value.ownBlock] at hk; omega)
        have HO5 := Lib.hid ho5
        have hb5 := HB5.out.size
        clear ho5 hg5
        have HSD5 := Lib.hid (HSD.out.below HB5.out)
        have HDNN : Hid (∀ n c, (Value.slice ao2 dl c2) = .slice none n c → c = 0) := HDN.out
        go_wp2_with (at_builtin; refine wpList_append_sl rfl (.tmp 50) (.tmp 51) rfl w4.heap.size _ pl rfl HO5.out _ D rfl HSD5.out HDNN.out ?d1 ?d2 ?_)
        case d1 => rw [HPL.out, HDL.out]; omega
        case d2 => omega
        intro v6 w6 ho6 hg6
        have HB6 : Hid (Below w4.heap.size w4 w6) := HB5.out.grown hg6 hb5 (fun k hk => (HO5.out.lt k hk).1)
        have HO6 := Lib.hid ho6.sl
        clear ho6 hg6 HO5 HSD5 HB5 hb5 HSD
        go_wp2_with fail
        refine (CU.out _ _ HO6.out).mono ?_
        rintro e w7 ⟨u7, rfl, ho7, hb7⟩
        have HB7 := Lib.hid (HB6.out.trans (hb7.mono HB6.out.size))
        have HO7 := Lib.hid ho7.sl
        have HO3w := Lib.hid (HO3'.out.below HB7.out)
        have q7 := (HB7.out.cell (p := ⟨g, 0, none⟩) hg4).trans q0
        clear hb7 ho7 HO6 HB6 CU
        go_wp2_with fail
        refine (CH.out _).mono ?_
        rintro e w8 ⟨rfl, hb8⟩
        have HB8 := Lib.hid (HB7.out.trans (hb8.mono HB7.out.size))
        have HO8 := Lib.hid (HO7.out.below hb8)
        have HO3x := Lib.hid (HO3w.out.below hb8)
        clear hb8 HB7 HO7 HO3w CH
        go_wp2_with fail
        refine (sameW_any M _ _ _ (maxLen_of (by rw [HN.out]; omega)) HO8.out HO3x.out).mono ?_
        rintro e w9 ⟨rfl, hb9⟩
        have HB9 := Lib.hid (HB4.out.trans ((HB8.out.trans (hb9.mono HB8.out.size)).mono hbr))
        clear hb9
        go_wp2
        go_ret
        exact ⟨rfl, HB9.out⟩
end Go.Proofs.Ytkailodeojbnhaa
