/- The document's words: the walk. -/
import Derived.Test.YtbblmpibekkbfaaDoorTWords
namespace Go.Proofs.YtbblmpibekkbfaaDoor
open Go.RowKit

theorem add_atT (b off j : Nat) : (⟨b, off, none⟩ : Addr).add j = ⟨b, off + j, none⟩ := by unfold Addr.add; split <;> simp_all
theorem cell_atT {w : World} {p : Nat} {cs : Array Value} {e : TypeId} {fz : Nat × Nat} (h : w.heap[p]? = some (.cells cs e fz)) (i : Nat) : w.cell? ⟨p, i, none⟩ = cs[i]? := by
  simp [World.cell?, h]
theorem heap_alloc_newT (w : World) (o : Obj) : (w.alloc o).heap[w.heap.size]? = some o := by
  show (w.heap.push o)[w.heap.size]? = _
  rw [Array.getElem?_push, if_pos rfl]
theorem TRow.low {B : Nat} {w : World} {v : Value} {L : List ByteArray} (h : TRow B w v L) {k : Nat} (hk : v.ownBlock = some k) : B ≤ k := by
  rcases h.2 with ⟨rfl, _⟩ | ⟨g, cap, cur, rfl, hbg, _⟩
  · cases hk
  · have : g = k := by injection hk
    omega
theorem set_snocT : ∀ (O : List ByteArray) (Y : ByteArray) (m : Nat), O.length = m → O ++ [Y] = (O ++ [(⟨#[]⟩ : ByteArray)]).set m ((⟨#[]⟩ : ByteArray) ++ Y)
  | [], Y, _, rfl => by
    show [Y] = [_]
    rw [show (⟨#[]⟩ : ByteArray) ++ Y = Y from ByteArray.empty_append]
  | a :: O, Y, _, rfl => by
    show a :: (O ++ [Y]) = a :: _
    rw [set_snocT O Y _ rfl]
    rfl
theorem one_cellT {w : World} {t : TypeId} {s : ByteArray} {g : Nat} (hg : w.heap.size = g) : ∀ (j : Nat) (u : Value), [Value.string s][j]? = some u → (w.alloc (.cells #[.string s] t)).cell? ((⟨g, 0, none⟩ : Addr).add j) = some u := by
  subst hg
  intro j u hu
  cases j with
  | zero => rw [add_atT, cell_atT (heap_alloc_newT ..)]; exact hu
  | succ j => simp at hu
theorem one_oneT {s : ByteArray} : ∀ u ∈ [Value.string s], u.oneCell' = true := by intro u hu; simp at hu; subst hu; rfl
set_option maxRecDepth 100000 in
set_option maxHeartbeats 4000000 in
theorem xwords_any (s : ByteArray) (w : World) (hs : s.size ≤ 100000) : Calls Tryd.prog 21 #[.string s] w fun e w' => ∃ v, e = .returned v ∧ TRow w.heap.size w' v (wordsL s.data.toList) ∧ Below w.heap.size w w' := by
  obtain ⟨i0, hi, hz0, hz1, hz2⟩ := info_parts infoT
  have HZ2 := Lib.hid hz2; clear hz2
  have HR : Hid (∀ (t : ByteArray) W, t.size ≤ 100000 → Calls Tryd.prog 34 #[.string t] W fun e w' => e = .returned (.tuple #[.int .i64 (runeL t.data.toList).1, .int .i64 ((runeL t.data.toList).2 : Nat)]) ∧ Below W.heap.size W w') := fun t W h => xrune_any t W h
  obtain ⟨F, hF⟩ : ∃ F, wordsL s.data.toList = F := ⟨_, rfl⟩
  have HF := Lib.hid hF
  rw [hF]
  clear hF
  go_enter Tryd.func21, Tryd.ntmps21
  go_wp2_with fail
  go_loopw [0, 3, 4] (fun t ov iv wr => ∃ (T : ByteArray) (o : List (List It)) (c : Bool), t = .string T ∧ iv = .bool c ∧ T.size ≤ s.size ∧ o.length + T.size ≤ s.size ∧ (c = true → o ≠ []) ∧ Hid (∀ b ∈ o.map flatG, b.size + T.size ≤ s.size) ∧
    Hid (((cut T.data.toList).foldl gStep (o, c)).1.map flatG = F) ∧ Hid (TRow w.heap.size wr ov (o.map flatG)) ∧ Hid (Below w.heap.size w wr)) (fun t _ _ _ => strLen t)
  case atStart => exact ⟨s, [], false, rfl, rfl, Nat.le_refl _, by simp, (fun h => by cases h), (fun b hb => by cases hb), HF.out, World.ownsRow_nil _ _ _ _, Below.refl _ _⟩
  case round =>
    obtain ⟨T, o, c, rfl, rfl, hT, hoT, hco, HSz, HE, HO, HB⟩ := hrel
    have hlen := data_len T
    by_cases h0 : T.size = 0
    · have hnil : T.data.toList = [] := List.length_eq_zero_iff.1 (by omega)
      have HE2 : Hid (o.map flatG = F) := by
        have := HE.out
        rw [hnil] at this
        exact this
      go_wp2
      go_ret
      exact ⟨_, rfl, by rw [← HE2.out]; exact HO.out, HB.out⟩
    · have hne : T.data.toList ≠ [] := fun e => by rw [e] at hlen; exact h0 hlen.symm
      have hp := rune_pos hne
      have hcc := cut_cons hne
      have hE := HE.out
      rw [hcc, List.foldl_cons] at hE
      have CR := Lib.hid (HR.out T wr (by omega))
      have HX := Lib.hid (utxt_drop T (runeL T.data.toList).2)
      have HTk := Lib.hid (utxt_take T (runeL T.data.toList).2)
      have HW := Lib.hid (isW_int (r := (runeL T.data.toList).1) (b := T.data.toList.take (runeL T.data.toList).2))
      have HKd : Hid (∀ W, Calls Tryd.prog 18 #[.int .i64 (runeL T.data.toList).1] W fun e w' => e = .returned (.int .i64 (kindI (runeL T.data.toList).1 : Nat)) ∧ W = w') := fun W => kind_any _ W
      rw [hlen] at hp
      clear hcc HE HR
      generalize runeL T.data.toList = R at *
      obtain ⟨r, n⟩ := R
      dsimp only at *
      generalize kindI r = kd at *
      have hsz : (T.extract n T.size).size = T.size - n := by rw [HX.out, utxt_size, List.length_drop, hlen]
      obtain ⟨X, hX⟩ : ∃ X, T.extract n T.size = X := ⟨_, rfl⟩
      have HXd : Hid (T.data.toList.drop n = X.data.toList) := by
        show _ = _
        rw [← hX, HX.out, utxt_data]
      rw [hX] at hsz
      rw [HXd.out] at hE
      have hpz : (T.extract 0 n).size = n := by rw [HTk.out, utxt_size, List.length_take, hlen]; omega
      obtain ⟨Y, hY⟩ : ∃ Y, T.extract 0 n = Y := ⟨_, rfl⟩
      rw [hY] at hpz
      have HYt : Hid (Y = utxt (T.data.toList.take n)) := by show _ = _; rw [← hY]; exact HTk.out
      have i1 : 0 ≤ (n : Int) := by omega
      have i2 : (n : Int) ≤ (T.size : Int) := by omega
      clear HX HTk
      generalize T.data.toList.take n = P at *
      cases hw : isW (r, P) with
      | false =>
        rw [hw] at HW
        have e : gStep (o, c) (r, P) = (o, false) := by unfold gStep; rw [if_neg (by rw [hw]; simp)]
        rw [e] at hE
        have HE2 := Lib.hid hE
        have HSz2 : Hid (∀ b ∈ o.map flatG, b.size + X.size ≤ s.size) := fun b hb => by have := HSz.out b hb; omega
        have hcase : ¬ 0 ≤ r ∨ (0 ≤ r ∧ kd ≠ 1 ∧ kd ≠ 2) := by
          have h := HW.out
          by_cases h0 : 0 ≤ r
          · right
            rw [decide_eq_true h0, Bool.true_and] at h
            have h := h.symm
            rw [Bool.or_eq_false_iff] at h
            exact ⟨h0, by simpa using h.1, by simpa using h.2⟩
          · exact .inl h0
        clear hE e hw HW HSz
        rcases hcase with hr | ⟨hr, k1, k2⟩
        · go_wp2_with fail
          refine CR.out.mono ?_
          rintro e w1 ⟨rfl, hb1⟩
          have HB1 := Lib.hid (HB.out.trans (hb1.mono HB.out.size))
          have HO1 := Lib.hid (HO.out.below hb1)
          clear hb1 CR HO
          go_wp2_with fail
          refine (HKd.out _).mono ?_
          rintro e w1' ⟨rfl, rfl⟩
          go_wp2
          go_roundw
          case rel => exact ⟨X, o, false, by first | rfl | (rw [← hX]), rfl, by omega, by omega, (fun h => by cases h), HSz2.out, HE2.out, HO1.out, HB1.out⟩
          case measure => simp [strLen]; first | omega | (rw [hsz]; omega) | (rw [← hX] at hsz; omega)
        · have f1 : ((kd : Int) == 1) = false := beq_eq_false_iff_ne.2 (by omega)
          have f2 : ((kd : Int) == 2) = false := beq_eq_false_iff_ne.2 (by omega)
          go_wp2_with fail
          refine CR.out.mono ?_
          rintro e w1 ⟨rfl, hb1⟩
          have HB1 := Lib.hid (HB.out.trans (hb1.mono HB.out.size))
          have HO1 := Lib.hid (HO.out.below hb1)
          clear hb1 CR HO
          go_wp2_with fail
          refine (HKd.out _).mono ?_
          rintro e w1' ⟨rfl, rfl⟩
          go_wp2
          go_roundw
          case rel => exact ⟨X, o, false, by first | rfl | (rw [← hX]), rfl, by omega, by omega, (fun h => by cases h), HSz2.out, HE2.out, HO1.out, HB1.out⟩
          case measure => simp [strLen]; first | omega | (rw [hsz]; omega) | (rw [← hX] at hsz; omega)
      | true =>
        rw [hw] at HW
        obtain ⟨hr, hk⟩ : 0 ≤ r ∧ (kd = 1 ∨ kd = 2) := by
          have h := HW.out.symm
          rw [Bool.and_eq_true, Bool.or_eq_true, decide_eq_true_eq] at h
          exact ⟨h.1, by simpa using h.2⟩
        clear HW
        cases c with
        | true =>
          have hone := hco rfl
          have e : gStep (o, true) (r, P) = (putLast (r, P) o, true) := by unfold gStep; rw [if_pos hw, if_pos rfl]
          rw [e] at hE
          have hpl := putLast_flat (r, P) o hone
          have hol : 0 < o.length := List.length_pos_iff.2 hone
          have hml : (o.map flatG).length = o.length := List.length_map ..
          have hpll : (putLast (r, P) o).length = o.length := by
            have := congrArg List.length hpl
            rw [List.length_map, List.length_set, hml] at this; exact this
          rw [← HYt.out] at hpl
          have HE2 := Lib.hid hE
          have HSz2 : Hid (∀ b ∈ (putLast (r, P) o).map flatG, b.size + X.size ≤ s.size) := fun b hb => by
            rw [hpl] at hb
            rcases List.mem_or_eq_of_mem_set hb with hb | rfl
            · have := HSz.out b hb; omega
            · have hm : (o.map flatG).getD (o.length - 1) ⟨#[]⟩ ∈ o.map flatG := by
                rw [List.getD, List.getElem?_eq_getElem (by rw [hml]; omega)]
                exact List.getElem_mem ..
              have := HSz.out _ hm
              rw [ByteArray.size_append]
              omega
          have hlast := HSz.out ((o.map flatG).getD (o.length - 1) ⟨#[]⟩) (by
            rw [List.getD, List.getElem?_eq_getElem (by rw [hml]; omega)]
            exact List.getElem_mem ..)
          have HPl := Lib.hid hpl
          have HGet : Hid (∀ (h : o.length - 1 < (o.map flatG).length), (o.map flatG)[o.length - 1] = (o.map flatG).getD (o.length - 1) ⟨#[]⟩) := fun h => by
            rw [List.getD, List.getElem?_eq_getElem h]; rfl
          clear hE e hw hpl HSz hco
          generalize putLast (r, P) o = o2 at *
          generalize o.map flatG = O at *
          obtain ⟨m, hm⟩ : ∃ m, o.length = m + 1 := ⟨o.length - 1, by omega⟩
          rw [hm] at hml hpll hol HPl HGet hlast hoT
          have em : m + 1 - 1 = m := rfl
          rw [em] at HPl HGet hlast
          generalize O.getD m ⟨#[]⟩ = La at *
          rcases hk with rfl | rfl
          all_goals
            go_wp2_with fail
            refine CR.out.mono ?_
            rintro e w1 ⟨rfl, hb1⟩
            have HB1 := Lib.hid (HB.out.trans (hb1.mono HB.out.size))
            have HO1 := Lib.hid (HO.out.below hb1)
            clear hb1 CR HO
            obtain ⟨g, cap, hv, hcap, hgB, hgl, hcell, hfz⟩ := HO1.out.here (by omega)
            subst hv
            have c0 := hcell m (by omega)
            rw [HGet.out (by omega)] at c0
            have f0 := hfz m
            have j1 : ((m : Int) + 1 - 1).toNat = m := by omega
            have j2 : (m : Int) + 1 - 1 = (m : Int) := by omega
            have j3 : (0 : Int) ≤ (m : Int) := by omega
            have j4 : (m : Int) < (m : Int) + 1 := by omega
            have hcat : ¬ 9223372036854775807 < La.size + Y.size := by omega
            rw [hml]
            clear hcell hfz
            go_wp2_with fail
            refine (HKd.out _).mono ?_
            rintro e w1' ⟨rfl, rfl⟩
            go_wp2_with fail
            go_region
            have HO2 : Hid (TRow w.heap.size (w1.setCell ⟨g, m, none⟩ (.string (La ++ Y))).drew (.slice (some ⟨g, 0, none⟩) (m + 1) cap) (O.set m (La ++ Y))) := by
              have h := (TRow.store HO1.out m (La ++ Y)).below ((Below.refl _ _).drew)
              rw [hml] at h
              exact h
            have HB2 : Hid (Below w.heap.size w (w1.setCell ⟨g, m, none⟩ (.string (La ++ Y))).drew) := (HB1.out.setCell (p := ⟨g, m, none⟩) hgB _).drew
            generalize (w1.setCell ⟨g, m, none⟩ (.string (La ++ Y))).drew = w2 at *
            clear c0 f0 HB1 HO1
            go_wp2
            go_roundw
            case rel => exact ⟨X, o2, true, by first | rfl | (rw [← hX]), rfl, by omega, by omega, (fun _ h => by rw [h] at hpll; cases hpll), HSz2.out, HE2.out, by rw [HPl.out]; exact HO2.out, HB2.out⟩
            case measure => simp [strLen]; first | omega | (rw [hsz]; omega) | (rw [← hX] at hsz; omega)
        | false =>
          have e : gStep (o, false) (r, P) = (o ++ [[(r, P)]], true) := by unfold gStep; rw [if_pos hw, if_neg (by simp)]
          rw [e] at hE
          have hml : (o.map flatG).length = o.length := List.length_map ..
          have hpl : (o ++ [[(r, P)]]).map flatG = o.map flatG ++ [Y] := by
            rw [List.map_append, HYt.out]
            show _ ++ [utxt (List.flatMap (·.2) [(r, P)])] = _
            simp
          have hpll : (o ++ [[(r, P)]]).length = o.length + 1 := by simp
          have HE2 := Lib.hid hE
          have HSz2 : Hid (∀ b ∈ (o ++ [[(r, P)]]).map flatG, b.size + X.size ≤ s.size) := fun b hb => by
            rw [hpl] at hb
            rcases List.mem_append.1 hb with hb | hb
            · have := HSz.out b hb; omega
            · rw [List.mem_singleton.1 hb]; omega
          have HPl := Lib.hid hpl
          clear hE e hw hpl HSz hco
          generalize o ++ [[(r, P)]] = o2 at *
          generalize o.map flatG = O at *
          generalize o.length = m at *
          rcases hk with rfl | rfl
          all_goals
            go_wp2_with fail
            refine CR.out.mono ?_
            rintro e w1 ⟨rfl, hb1⟩
            have HB1 := Lib.hid (HB.out.trans (hb1.mono HB.out.size))
            have HO1 := Lib.hid (HO.out.below hb1)
            clear hb1 CR HO
            go_wp2_with fail
            refine (HKd.out _).mono ?_
            rintro e w1' ⟨rfl, rfl⟩
            go_wp2_with (at_builtin; go_loud (refine wpList_append_own _ rfl _ _ 27 rfl w.heap.size 9 i0 _ 1 16 Tryd.underlying27 hi hz0 hz1 HZ2.out rfl (by decide) _ _ _ rfl (HO1.out.alloc _) _ 1 1 [.string ⟨#[]⟩] rfl rfl (one_cellT (by simp)) one_oneT ?c3 ?c4 ?c5 ?_))
            case c3 => unfold maxLen; omega
            case c4 => omega
            case c5 => have := HB1.out.size; simp; omega
            intro v1 w2 hown hgrow _
            have HO2 : Hid (TRow w.heap.size w2 v1 (O ++ [(⟨#[]⟩ : ByteArray)])) := by
              show TRow _ _ _ _
              unfold TRow
              rw [List.length_append, List.map_append, hml]
              exact hown
            have HB2 : Hid (Below w.heap.size w w2) := (HB1.out.alloc HB1.out.size _).grown hgrow (by have := HB1.out.size; simp; omega) (fun q hq => HO1.out.low hq)
            clear hown hgrow HB1 HO1
            have hO2l : (O ++ [(⟨#[]⟩ : ByteArray)]).length = m + 1 := by rw [List.length_append, hml]; rfl
            have hget : ∀ h : m < (O ++ [(⟨#[]⟩ : ByteArray)]).length, (O ++ [(⟨#[]⟩ : ByteArray)])[m] = (⟨#[]⟩ : ByteArray) := fun h => by
              rw [List.getElem_append_right (by omega)]; simp
            have HSet : Hid (O ++ [Y] = (O ++ [(⟨#[]⟩ : ByteArray)]).set m ((⟨#[]⟩ : ByteArray) ++ Y)) := by
              exact set_snocT O Y m hml
            have HGet := Lib.hid hget
            clear hget
            generalize O ++ [(⟨#[]⟩ : ByteArray)] = O3 at *
            obtain ⟨g, cap, hv, hcap, hgB, hgl, hcell, hfz⟩ := HO2.out.here (by omega)
            subst hv
            have c0 := hcell m (by omega)
            rw [HGet.out (by omega)] at c0
            have f0 := hfz m
            have j1 : ((m : Int) + 1 - 1).toNat = m := by omega
            have j2 : (m : Int) + 1 - 1 = (m : Int) := by omega
            have j3 : (0 : Int) ≤ (m : Int) := by omega
            have j4 : (m : Int) < (m : Int) + 1 := by omega
            have hcat : ¬ 9223372036854775807 < (⟨#[]⟩ : ByteArray).size + Y.size := by show ¬ _ < 0 + Y.size; omega
            rw [hO2l]
            clear hcell hfz
            generalize hnil : (⟨#[]⟩ : ByteArray) = La at *
            go_wp2_with fail
            go_region
            have HO4 : Hid (TRow w.heap.size (w2.setCell ⟨g, m, none⟩ (.string (La ++ Y))).drew (.slice (some ⟨g, 0, none⟩) (m + 1) cap) (O3.set m (La ++ Y))) := by
              have h := (TRow.store HO2.out m (La ++ Y)).below ((Below.refl _ _).drew)
              rw [hO2l] at h
              exact h
            have HB4 : Hid (Below w.heap.size w (w2.setCell ⟨g, m, none⟩ (.string (La ++ Y))).drew) := (HB2.out.setCell (p := ⟨g, m, none⟩) hgB _).drew
            generalize (w2.setCell ⟨g, m, none⟩ (.string (La ++ Y))).drew = w4 at *
            clear c0 f0 HB2 HO2
            go_wp2
            go_roundw
            case rel => exact ⟨X, o2, true, by first | rfl | (rw [← hX]), rfl, by omega, by omega, (fun _ h => by rw [h] at hpll; cases hpll), HSz2.out, HE2.out, by rw [HPl.out, HSet.out]; exact HO4.out, HB4.out⟩
            case measure => simp [strLen]; first | omega | (rw [hsz]; omega) | (rw [← hX] at hsz; omega)
end Go.Proofs.YtbblmpibekkbfaaDoor
