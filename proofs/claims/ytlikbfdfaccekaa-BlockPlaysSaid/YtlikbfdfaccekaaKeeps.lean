/- BlockKeeps answers true for every number and every list of acts, and changes nothing that was there: the walk. -/
import Derived.Test.YtlikbfdfaccekaaPair
namespace Go.Proofs.Ytlikbfdfaccekaa
open Go.RowKit

theorem left_nil (k : Nat) : left [] (-1) 0 k = 0 := by unfold left; simp
theorem crash_none {D : DevS} (ok : D.Ok) : (D.crash [] (-1) 0).disk = D.disk := by
  unfold DevS.crash
  exact laidTo_none _ _ _ _ (fun i _ => by have e : (min (max (0 : Int) 0) 256).toNat = 0 := by decide
                                           rw [e]; exact left_nil i) (fun x hx => (ok.pends x hx).1)
theorem crash_all {D : DevS} (ok : D.Ok) : (D.crash (List.replicate D.pend.length true) 0 256).disk = (List.range D.disk.length).map D.rdB := by
  unfold DevS.crash
  have hlen : (laidTo (left (List.replicate D.pend.length true) 0 (min (max (256 : Int) 0) 256).toNat) D.pend D.disk D.pend.length).length = D.disk.length := laidTo_length _ _ _ _
  apply List.ext_getElem
  · simpa using hlen
  · intro i h1 h2
    have hi : i < D.disk.length := by simpa using h2
    have h := (laidTo_get (left (List.replicate D.pend.length true) 0 (min (max (256 : Int) 0) 256).toNat) D.pend D.disk D.pend.length i (Nat.le_refl _) (fun j hj => by unfold left; simp [hj]) hi ok.whole ok.pends).1
    rw [getD_lt _ _ (by rw [hlen]; exact hi), List.take_length] at h
    simp only [List.getElem_map, List.getElem_range]
    unfold DevS.rdB
    exact h
theorem rd_alive (D : DevS) (i : Nat) (hd : D.dead = false) (hi : i < D.disk.length) : D.rd i = (D.rdB i, 0) := by
  have hck : D.ck i = 0 := by unfold DevS.ck; rw [hd]; simp; omega
  unfold DevS.rd
  rw [hck]; simp

theorem _root_.Go.Proofs.Try.infoBo : (Try.prog.info? 4).map (fun i => (i.zero, i.size, i.bytes)) = some (some (.bool false), 1, 1) := by kernel_rfl

/-- What is read of the first k blocks. -/
def rdRow (D : DevS) (k : Nat) : List Value := ((List.range k).map D.rdB).map Value.string
theorem rdRow_succ (D : DevS) (k : Nat) : rdRow D (k + 1) = rdRow D k ++ [Value.string (D.rdB k)] := by unfold rdRow; rw [List.range_succ]; simp
/-- k times true. -/
def trues (k : Nat) : List Value := (List.replicate k true).map Value.bool
theorem trues_succ (k : Nat) : trues (k + 1) = trues k ++ [Value.bool true] := by unfold trues; rw [List.replicate_succ']; simp

theorem own_shape {w : World} {base : Nat} {e : TypeId} {size n : Nat} {v : Value} {xs : List Value} (h : w.ownsRow base e size v n xs) : ∃ ao cap, v = .slice ao n cap := by
  rcases h.2 with ⟨h', h0⟩ | ⟨g, cap, cur, h1, _⟩
  · exact ⟨none, 0, by rw [h', h0]⟩
  · exact ⟨_, cap, h1⟩
theorem own_bools {w : World} {S : Nat → Prop} {base n : Nat} {v : Value} (h : w.ownsRow base 4 1 v n (trues n)) (hs : ∀ k, v.ownBlock = some k → ¬ S k) : Bools S w v (List.replicate n true) := by
  rcases h.2 with ⟨rfl, h0⟩ | ⟨g, cap, cur, rfl, _⟩
  · exact ⟨none, 0, by rw [h0]; rfl, .inl (by rw [h0]; rfl)⟩
  · refine ⟨_, cap, by simp, .inr ⟨g, 0, rfl, hs g rfl, fun i hi => ?_⟩⟩
    have hi' : i < n := by simpa using hi
    rw [Nat.zero_add, World.ownsRow.cellAt h i (by omega)]
    unfold trues; simp [hi']

theorem own_below {w w' : World} {base : Nat} {e : TypeId} {size n : Nat} {v : Value} {xs : List Value} (h : w.ownsRow base e size v n xs) (hb : Below w.heap.size w w') : w'.ownsRow base e size v n xs := by
  refine ⟨h.1, ?_⟩
  rcases h.2 with h' | ⟨g, cap, cur, h1, h2, h3, h4⟩
  · exact .inl h'
  · exact .inr ⟨g, cap, cur, h1, h2, by rw [hb.block g (Array.getElem?_eq_some_iff.1 h3).1]; exact h3, h4⟩

theorem Two.disk1 {K S1 S2 : Nat → Prop} {w0 w : World} {p1 p2 : Nat} {D1 D2 : DevS} (h : Two K S1 S2 w0 w p1 D1 p2 D2) :
    Calls Try.prog 18 #[.pointer (some ⟨p1, 0, none⟩)] w fun e w' => ∃ v, e = .returned v ∧ Strs w' v D1.disk ∧ (∀ k, v.ownBlock = some k → w.heap.size ≤ k ∧ k < w'.heap.size) ∧ Below w.heap.size w w' := by
  refine (disk_any h.d1).mono fun e w' ⟨v, he, hown, hb⟩ => ⟨v, he, .of_own hown (by have := h.d1.ok.few; omega), hown.lt, hb⟩

set_option maxRecDepth 100000 in
set_option maxHeartbeats 4000000 in
theorem keeps_any (n : Int) (v : Value) (L : List ActS) (w : World) (hn : -9223372036854775808 ≤ n ∧ n ≤ 9223372036854775807) (h : Acts w v L) :
    Calls Try.prog 4 #[.int .i64 n, v] w fun e w' => e = .returned (.bool true) ∧ Below w.heap.size w w' := by
  obtain ⟨ao, cap, hv⟩ : ∃ ao cap, v = .slice ao L.length cap := by obtain ⟨_, _, ao, cap, hv, _⟩ := h; exact ⟨ao, cap, hv⟩
  have HA := Lib.hid h; clear h
  obtain ⟨m, hm⟩ : ∃ m, L.length = m := ⟨_, rfl⟩
  have HL := Lib.hid hm
  rw [hm] at hv
  clear hm
  subst hv
  by_cases hsm : smallB L = true
  · have HSM := Lib.hid hsm; clear hsm
    go_enter Try.func4, Try.ntmps4
    go_wp2_with fail
    refine (shown_any _).mono ?_
    rintro e w1 ⟨rfl, hb1⟩
    have HB1 := Lib.hid hb1; clear hb1
    have c := small_any HA.out HB1.out; rw [HSM.out] at c
    have C := Lib.hid c; clear c
    go_wp2_with fail
    refine C.out.mono ?_
    rintro e w1' ⟨rfl, rfl⟩
    clear C
    have C := Lib.hid (made_any n _ L _ hn (HA.out.mono HB1.out) HSM.out)
    go_wp2_with fail
    refine C.out.mono ?_
    rintro e w2 ⟨p, rfl, hd⟩
    clear C
    have HD := Lib.hid hd; clear hd
    have HB2 : Hid (Below w.heap.size w w2) := HB1.out.trans (HD.out.bel.mono HB1.out.size)
    have C := Lib.hid (made_any n _ L _ hn (HA.out.mono HB2.out) HSM.out)
    go_wp2_with fail
    refine C.out.mono ?_
    rintro e w3 ⟨p2, rfl, hd⟩
    clear C
    have hT : ∃ S1 S2, Two (fun _ => False) S1 S2 w w3 p (madeD n L) p2 (madeD n L) := by
      obtain ⟨S1, h1, h2, h3⟩ := HD.out
      obtain ⟨S2, g1, g2, g3⟩ := hd
      exact ⟨S1, S2, fun k hk => Nat.le_trans HB1.out.size (h1 k hk), fun k hk => Nat.le_trans HB2.out.size (g1 k hk), fun k hk h' => by have := h2.lt k hk; have := g1 k h'; omega, h2.below g3, g2, HB2.out.trans (g3.mono HB2.out.size), fun k hk => hk.elim⟩
    obtain ⟨S1, S2, hT⟩ := hT
    have HT := Lib.hid hT
    have hlen : (madeD n L).pend.length ≤ 1000000 := by have := madeD_len n L; have := small_len HSM.out; omega
    have HLen := Lib.hid hlen
    clear hd hT HD HB1 HB2 hlen HL
    generalize madeD n L = D at *
    have C := Lib.hid HT.out.disk1
    go_wp2_with fail
    refine C.out.mono ?_
    rintro e w4 ⟨v1, rfl, hs1, hk1, hb4⟩
    clear C
    have hsh : ∃ ao n cap, v1 = .slice ao n cap := by obtain ⟨ao, cap, rfl, _⟩ := hs1; exact ⟨ao, _, cap, rfl⟩
    obtain ⟨wo, wn, wc, rfl⟩ := hsh
    have HT4 : Hid (Two (fun k => (Value.slice wo wn wc).ownBlock = some k) S1 S2 w w4 p D p2 D) := (HT.out.below hb4).more (fun k hk => .inr ⟨(hk1 k hk).2, fun h' => by have := HT.out.d1.lt k h'; have := (hk1 k hk).1; omega, fun h' => by have := HT.out.d2.lt k h'; have := (hk1 k hk).1; omega⟩)
    have HS4 := Lib.hid hs1
    clear hs1 hk1 hb4 HT
    have C := Lib.hid (dead_any HT4.out.d1)
    by_cases hde : D.dead = true
    · rw [hde] at C
      clear hde
      go_wp2_with fail
      refine C.out.mono ?_
      rintro e w4' ⟨rfl, rfl⟩
      clear C
      have C := Lib.hid (crash_any [] (-1) 0 (.slice none 0 0) HLen.out (by simp) HT4.out.d1 ⟨_, _, rfl, .inl rfl⟩)
      go_wp2_with fail
      refine C.out.mono ?_
      rintro e w5 ⟨rfl, hd5, ho5⟩
      clear C
      obtain ⟨⟨S1', hT5⟩, hk5⟩ := HT4.out.first (.mk hd5 ho5)
      have HT5 := Lib.hid hT5
      have HS5 : Hid (Strs w5 (Value.slice wo wn wc) D.disk) := HS4.out.kept (fun k hk _ => hk5 k hk)
      clear hd5 ho5 hT5 hk5
      have C := Lib.hid HT5.out.disk1
      rw [crash_none HT4.out.d1.ok] at C
      clear HT4 HS4
      go_wp2_with fail
      refine C.out.mono ?_
      rintro e w6 ⟨v2, rfl, hs2, hk2, hb6⟩
      clear C
      have C := Lib.hid (same_any _ _ _ _ hs2 (HS5.out.below hb6))
      have HT6 := Lib.hid (HT5.out.below hb6)
      clear hs2 hk2 hb6 HT5 HS5
      go_wp2_with fail
      refine C.out.mono ?_
      rintro e w7 ⟨rfl, hb7⟩
      clear C
      have HT7 := Lib.hid (HT6.out.below hb7); clear hb7 HT6
      have C := Lib.hid (dead_any HT7.out.d1)
      go_wp2_with fail
      refine C.out.mono ?_
      rintro e w7' ⟨rfl, rfl⟩
      clear C
      go_wp2
      go_ret
      exact ⟨rfl, HT7.out.bel⟩
    · have hdf : D.dead = false := by simpa using hde
      rw [hdf] at C
      clear hde
      obtain ⟨i0, hi, hz0, hz1, hz2⟩ := info_parts Try.infoS
      obtain ⟨j0, hj, hy0, hy1, hy2⟩ := info_parts Try.infoBo
      have HZ2 := Lib.hid hz2; have HY2 := Lib.hid hy2; clear hz2 hy2
      have hfew := HT4.out.d2.ok.few
      have HDF := Lib.hid hdf; clear hdf
      obtain ⟨nd, hnd⟩ : ∃ nd, D.disk.length = nd := ⟨_, rfl⟩
      have HND := Lib.hid hnd
      rw [hnd] at hfew
      clear hnd
      go_wp2_with fail
      refine C.out.mono ?_
      rintro e w4' ⟨rfl, rfl⟩
      clear C
      go_wp2_with fail
      go_loopw [12, 13] (fun rv iv wr => ∃ k : Nat, k ≤ nd ∧ iv = .int .i64 k ∧ Hid (wr.ownsRow w4.heap.size 9 1 rv k (rdRow D k)) ∧ Hid (Below w4.heap.size w4 wr)) (fun _ iv _ => nd - (intOf iv).toNat)
      case atStart => exact ⟨0, Nat.zero_le _, rfl, World.ownsRow_nil _ _ _ _, Below.refl _ _⟩
      case round =>
        obtain ⟨k, hk, rfl, HO, HB⟩ := hrel
        have c := blocks_any (HT4.out.below HB.out).d2
        rw [HND.out] at c
        have CB := Lib.hid c; clear c
        by_cases hlt : k < nd
        · have c := read_any k HLen.out (HT4.out.below HB.out).d2
          rw [rd_alive D k HDF.out (by rw [HND.out]; exact hlt)] at c
          have CR := Lib.hid c; clear c
          have HX := Lib.hid (rdRow_succ D k)
          generalize D.rdB k = X at *
          go_wp2_with fail
          refine CB.out.mono ?_
          rintro e wr' ⟨rfl, rfl⟩
          go_wp2_with fail
          refine CR.out.mono ?_
          rintro e wa ⟨rfl, hba⟩
          have HOa := Lib.hid (own_below HO.out hba)
          have HBa : Hid (Below w4.heap.size w4 wa) := HB.out.trans (hba.mono HB.out.size)
          clear hba
          go_wp2_with (at_builtin; refine wpList_append_own _ rfl _ _ 39 rfl w4.heap.size 9 i0 _ 1 16 Try.underlying39 hi hz0 hz1 HZ2.out rfl (by decide) _ _ _ rfl (HOa.out.alloc _) ⟨wa.heap.size, 0, none⟩ 1 1 [.string X] rfl rfl ?c1 ?c2 ?c3 ?c4 ?c5 ?_)
          case c1 =>
            intro j u hj
            match j, hj with
            | 0, hj => simp at hj; subst hj; simp [Addr.add]
          case c2 => intro u hu; simp at hu; subst hu; rfl
          case c3 => unfold maxLen; omega
          case c4 => omega
          case c5 => have := HBa.out.size; simp; omega
          intro v' wb hown' hgrow _
          have HOb : Hid (wb.ownsRow w4.heap.size 9 1 v' (k + 1) (rdRow D (k + 1))) := by show wb.ownsRow _ _ _ _ _ _; rw [HX.out]; exact hown'
          have HBb : Hid (Below w4.heap.size w4 wb) := (HBa.out.alloc HBa.out.size _).grown hgrow (by have := HBa.out.size; simp; omega) (fun g hg => (HOa.out.lt g hg).1)
          clear hown' hgrow
          go_wp2
          go_roundw
          case rel => exact ⟨k + 1, by omega, by go_num, HOb, HBb⟩
          case measure => simp [intOf]; omega
        · have hkn : k = nd := by omega
          subst hkn
          go_wp2_with fail
          refine CB.out.mono ?_
          rintro e wr' ⟨rfl, rfl⟩
          clear CB
          have HT5 := Lib.hid (HT4.out.below HB.out)
          have HS5 := Lib.hid (HS4.out.below HB.out)
          have hlt5 := HO.out.lt
          have HR5 : Hid (Strs wr _ ((List.range k).map D.rdB)) := Strs.of_own HO.out (by simp; omega)
          have HT6 := Lib.hid (HT5.out.more (K' := fun j => (Value.slice wo wn wc).ownBlock = some j ∨ u12.ownBlock = some j) (fun j hj => by
            rcases hj with hj | hj
            · exact .inl hj
            · exact .inr ⟨(hlt5 j hj).2, fun h' => by have := HT4.out.d1.lt j h'; have := (hlt5 j hj).1; omega, fun h' => by have := HT4.out.d2.lt j h'; have := (hlt5 j hj).1; omega⟩))
          clear hlt5 HO HB HT4 HS4 HT5
          obtain ⟨np, hnp⟩ : ∃ np, D.pend.length = np := ⟨_, rfl⟩
          have hnp6 : np ≤ 1000000 := by rw [← hnp]; exact HLen.out
          have HNP := Lib.hid hnp; clear hnp
          generalize wr = w5 at *
          go_wp2_with fail
          go_loopw [16, 17] (fun kv iv wq => ∃ j : Nat, j ≤ np ∧ iv = .int .i64 j ∧ Hid (wq.ownsRow w5.heap.size 4 1 kv j (trues j)) ∧ Hid (Below w5.heap.size w5 wq)) (fun _ iv _ => np - (intOf iv).toNat)
          case atStart => exact ⟨0, Nat.zero_le _, rfl, World.ownsRow_nil _ _ _ _, Below.refl _ _⟩
          case round =>
            obtain ⟨j, hj6, rfl, HO, HB⟩ := hrel
            have c := pending_any HLen.out (HT6.out.below HB.out).d2
            rw [HNP.out] at c
            have CP := Lib.hid c; clear c
            by_cases hlt : j < np
            · go_wp2_with fail
              refine CP.out.mono ?_
              rintro e wa ⟨v, rfl, hpo, hba⟩
              obtain ⟨pao, pcap, rfl⟩ := own_shape hpo
              have HOa := Lib.hid (own_below HO.out hba)
              have HBa : Hid (Below w5.heap.size w5 wa) := HB.out.trans (hba.mono HB.out.size)
              have HX := Lib.hid (trues_succ j)
              clear hba hpo
              go_wp2_with (at_builtin; refine wpList_append_own _ rfl _ _ 35 rfl w5.heap.size 4 j0 _ 1 1 Try.underlying35 hj hy0 hy1 HY2.out rfl (by decide) _ _ _ rfl (HOa.out.alloc _) ⟨wa.heap.size, 0, none⟩ 1 1 [.bool true] rfl rfl ?d1 ?d2 ?d3 ?d4 ?d5 ?_)
              case d1 =>
                intro j u hj
                match j, hj with
                | 0, hj => simp at hj; subst hj; simp [Addr.add]
              case d2 => intro u hu; simp at hu; subst hu; rfl
              case d3 => unfold maxLen; omega
              case d4 => omega
              case d5 => have := HBa.out.size; simp; omega
              intro v' wb hown' hgrow _
              have HOb : Hid (wb.ownsRow w5.heap.size 4 1 v' (j + 1) (trues (j + 1))) := by show wb.ownsRow _ _ _ _ _ _; rw [HX.out]; exact hown'
              have HBb : Hid (Below w5.heap.size w5 wb) := (HBa.out.alloc HBa.out.size _).grown hgrow (by have := HBa.out.size; simp; omega) (fun g hg => (HOa.out.lt g hg).1)
              clear hown' hgrow
              go_wp2
              go_roundw
              case rel => exact ⟨j + 1, by omega, by go_num, HOb, HBb⟩
              case measure => simp [intOf]; omega
            · have hjn : j = np := by omega
              subst hjn
              go_wp2_with fail
              refine CP.out.mono ?_
              rintro e w7 ⟨v, rfl, hpo, hb7⟩
              obtain ⟨pao, pcap, rfl⟩ := own_shape hpo
              clear hpo CP
              have HO7 := Lib.hid (own_below HO.out hb7)
              have HB7 : Hid (Below w5.heap.size w5 w7) := HB.out.trans (hb7.mono HB.out.size)
              have hlt7 := HO7.out.lt
              have HT7 := Lib.hid ((HT6.out.below HB7.out).more (K' := fun g => ((Value.slice wo wn wc).ownBlock = some g ∨ u12.ownBlock = some g) ∨ u16.ownBlock = some g) (fun g hg => by
                rcases hg with hg | hg
                · exact .inl hg
                · exact .inr ⟨(hlt7 g hg).2, fun h' => by have := HT6.out.d1.lt g h'; have := (hlt7 g hg).1; omega, fun h' => by have := HT6.out.d2.lt g h'; have := (hlt7 g hg).1; omega⟩))
              have HS7 := Lib.hid (HS5.out.below HB7.out)
              have HR7 := Lib.hid (HR5.out.below HB7.out)
              clear hlt7 hb7 HO HB HT6 HS5 HR5 HB7
              have C := Lib.hid (crash_any [] (-1) 0 (.slice none 0 0) HLen.out (by simp) HT7.out.d1 ⟨_, _, rfl, .inl rfl⟩)
              go_wp2_with fail
              refine C.out.mono ?_
              rintro e w8 ⟨rfl, hd8, ho8⟩
              clear C
              obtain ⟨⟨S1', hT8⟩, hk8⟩ := HT7.out.first (.mk hd8 ho8)
              have HT8 := Lib.hid hT8
              have HS8 := Lib.hid (HS7.out.kept (fun g hg _ => hk8 g (.inl (.inl hg))))
              have HR8 := Lib.hid (HR7.out.kept (fun g hg _ => hk8 g (.inl (.inr hg))))
              have HV8 : Hid (Bools S2 w8 u16 (List.replicate j true)) := by
                have hbo := own_bools HO7.out (S := S2) (fun g hg => (HT7.out.kp g (.inr hg)).2.2)
                obtain ⟨kao, kcap, e1, hkk⟩ := hbo
                refine ⟨kao, kcap, e1, ?_⟩
                rcases hkk with h' | ⟨g, off, e2, hns, hc⟩
                · exact .inl h'
                · refine .inr ⟨g, off, e2, hns, fun i hi => ?_⟩
                  have := hc i hi
                  rw [World.cell?_of_block (w := w7) (hk8 g (.inr (by rw [e1, e2]; rfl)))]
                  exact this
              clear hd8 ho8 hT8 hk8 HT7 HS7 HR7 HO7
              have hok1 := HT8.out.d2.ok
              have ecr := crash_none hok1
              have eca := crash_all hok1
              rw [HNP.out, HND.out] at eca
              have C := Lib.hid (crash_any (List.replicate j true) 0 256 u16 HLen.out (by simp; omega) HT8.out.d2 HV8.out)
              go_wp2_with fail
              refine C.out.mono ?_
              rintro e w9 ⟨rfl, hd9, ho9⟩
              clear C
              obtain ⟨⟨S2', hT9⟩, hk9⟩ := HT8.out.swap.first (.mk hd9 ho9)
              have HT9 := Lib.hid hT9
              have HS9 := Lib.hid (HS8.out.kept (fun g hg _ => hk9 g (.inl (.inl hg))))
              have HR9 := Lib.hid (HR8.out.kept (fun g hg _ => hk9 g (.inl (.inr hg))))
              have HECR := Lib.hid ecr; have HECA := Lib.hid eca
              clear hd9 ho9 hT9 hk9 HT8 HS8 HR8 HV8 ecr eca hok1
              have C := Lib.hid HT9.out.swap.disk1
              rw [HECR.out] at C
              go_wp2_with fail
              refine C.out.mono ?_
              rintro e wA ⟨v2, rfl, hs2, _, hbA⟩
              clear C
              have C := Lib.hid (same_any _ _ _ _ hs2 (HS9.out.below hbA))
              have HTA := Lib.hid (HT9.out.below hbA); have HRA := Lib.hid (HR9.out.below hbA)
              clear hs2 hbA HT9 HS9 HR9
              go_wp2_with fail
              refine C.out.mono ?_
              rintro e wB ⟨rfl, hbB⟩
              clear C
              have HTB := Lib.hid (HTA.out.below hbB); have HRB := Lib.hid (HRA.out.below hbB)
              clear hbB HTA HRA
              have C := Lib.hid HTB.out.disk1
              rw [HECA.out] at C
              go_wp2_with fail
              refine C.out.mono ?_
              rintro e wC ⟨v3, rfl, hs3, _, hbC⟩
              clear C
              have C := Lib.hid (same_any _ _ _ _ hs3 (HRB.out.below hbC))
              have HTC := Lib.hid (HTB.out.below hbC)
              clear hs3 hbC HTB HRB
              go_wp2_with fail
              refine C.out.mono ?_
              rintro e wD ⟨rfl, hbD⟩
              clear C
              have HTD := Lib.hid (HTC.out.below hbD)
              clear hbD HTC
              have C := Lib.hid (pending_any (by simp [DevS.crash]) HTD.out.d1)
              go_wp2_with fail
              refine C.out.mono ?_
              rintro e wE ⟨v4, rfl, hpo, hbE⟩
              clear C
              obtain ⟨ao4, cap4, rfl⟩ := own_zero hpo
              have HTE := Lib.hid (HTD.out.below hbE)
              clear hpo hbE HTD
              have C := Lib.hid (pending_any (by simp [DevS.crash]) HTE.out.d2)
              go_wp2_with fail
              refine C.out.mono ?_
              rintro e wF ⟨v5, rfl, hpo, hbF⟩
              clear C
              obtain ⟨ao5, cap5, rfl⟩ := own_zero hpo
              have HTF := Lib.hid (HTE.out.below hbF)
              clear hpo hbF HTE
              go_wp2
              go_ret
              exact ⟨rfl, HTF.out.bel⟩
  · have hsf : smallB L = false := by simpa using hsm
    have HSM := Lib.hid hsf; clear hsm hsf
    go_enter Try.func4, Try.ntmps4
    go_wp2_with fail
    refine (shown_any _).mono ?_
    rintro e w1 ⟨rfl, hb1⟩
    have HB1 := Lib.hid hb1; clear hb1
    have c := small_any HA.out HB1.out; rw [HSM.out] at c
    have C := Lib.hid c; clear c
    go_wp2_with fail
    refine C.out.mono ?_
    rintro e w1' ⟨rfl, rfl⟩
    clear C
    go_wp2
    go_ret
    exact ⟨rfl, HB1.out⟩

end Go.Proofs.Ytlikbfdfaccekaa
