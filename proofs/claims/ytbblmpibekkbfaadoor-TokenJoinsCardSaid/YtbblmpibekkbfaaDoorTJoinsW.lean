/- TokenJoins: the walk. -/
import Derived.Test.YtbblmpibekkbfaaDoorTWalks
import Derived.Test.YtbblmpibekkbfaaDoorTJoinM
namespace Go.Proofs.YtbblmpibekkbfaaDoor
open Go.RowKit

set_option maxRecDepth 100000 in
set_option maxHeartbeats 4000000 in
theorem tokjoins_walk (s t : ByteArray) (w : World) (hT : TabsT w) (hs : s.size ≤ maxLen) (ht : t.size ≤ maxLen) : Calls Tryd.prog 5 #[.string s, .string t] w fun e w' => e = .returned (.bool true) ∧ Below w.heap.size w w' := by
  have HT := Lib.hid hT
  clear hT
  have CS := Lib.hid (shown11_any w HT.out)
  unfold maxLen at hs ht
  by_cases h1 : s.size ≤ 700
  · by_cases h2 : t.size ≤ 700
    · have C0 := Lib.hid (fun (T : ByteArray) W (hW : Below w.heap.size w W) (hz : T.size ≤ 10000) => ptokens_any T W (HT.out.below hW) hz)
      have CA := Lib.hid (C0.out s)
      have CZ := Lib.hid (C0.out (s ++ ⟨#[32, 122, 122]⟩))
      have CB := Lib.hid (C0.out t)
      have CE := Lib.hid (C0.out (s ++ ⟨#[32]⟩ ++ t))
      rw [tokL_zz] at CZ
      rw [tokL_blank] at CE
      have hal := tokL_len s
      have hbl := tokL_len t
      have hn := wN_le s
      have HAt : Hid (∀ (j : Nat) (x : ByteArray × Int), (tokL t)[j]? = some x → 0 ≤ x.2 ∧ x.2 ≤ 700) := fun j x hx => by
        obtain ⟨hj, rfl⟩ := List.getElem?_eq_some_iff.1 hx
        obtain ⟨a1, a2, a3, a4, _⟩ := tokL_at t j hj
        omega
      have hz1 : (s ++ (⟨#[32, 122, 122]⟩ : ByteArray)).size ≤ 10000 := by rw [ByteArray.size_append]; exact Nat.le_trans (Nat.add_le_add_right h1 3) (by omega)
      have hz2 : (s ++ (⟨#[32]⟩ : ByteArray) ++ t).size ≤ 10000 := by rw [ByteArray.size_append, ByteArray.size_append]; exact Nat.le_trans (Nat.add_le_add (Nat.add_le_add_right h1 1) h2) (by omega)
      have HZ1 := Lib.hid hz1; have HZ2 := Lib.hid hz2
      have DS := Lib.hid (fun va vb W h1 h2 => sameK_any (tokL s ++ shiftK (wN s) (tokL t)) va vb W h1 h2 (by rw [List.length_append]; unfold shiftK; rw [List.length_map]; omega))
      clear hz1 hz2
      generalize wN s = n at *
      generalize tokL s = A at *
      generalize tokL t = B at *
      generalize (⟨#[122, 122]⟩ : ByteArray) = zz at *
      go_enter Tryd.func5, Tryd.ntmps5
      go_wp2_with fail
      refine CS.out.mono ?_
      rintro e w1 ⟨rfl, hb⟩
      have H1 := Lib.hid hb
      clear hb CS
      go_wp2_with fail
      refine (CA.out _ H1.out (by omega)).mono ?_
      rintro e w2 ⟨v2, rfl, hr, _, hb⟩
      have H2 := Lib.hid (below_nextT H1.out hb)
      have R2 := Lib.hid hr
      clear hb hr CA
      go_wp2_with fail
      refine (CZ.out _ H2.out HZ1.out).mono ?_
      rintro e w3 ⟨v3, rfl, hr, _, hb⟩
      have H3 := Lib.hid (below_nextT H2.out hb)
      have R3 := Lib.hid hr
      have R2' := Lib.hid (R2.out.below hb)
      clear hb hr CZ HZ1 R2
      obtain ⟨ao, c, rfl, hcell⟩ := R3.out
      have HC := Lib.hid hcell
      clear hcell R3
      obtain ⟨aa, ca, rfl, hcell⟩ := R2'.out
      have HCa := Lib.hid hcell
      clear hcell
      have hl3 : (A ++ [(zz, (n : Int))]).length = A.length + 1 := by rw [List.length_append]; rfl
      obtain ⟨g3, off3, rfl, hg3, _, hp3⟩ := HC.out A.length (by omega)
      have he3 : ((A ++ [(zz, (n : Int))])[A.length]'(by omega)).2 = (n : Int) := by simp
      rw [he3] at hp3
      rw [hl3]
      clear he3 HC
      have hw3 : IntKind.i64.wrap ((A.length : Int) + 1) = (A.length : Int) + 1 := IntWalk.i64_in _ (by omega)
      go_wp2_with (at_builtin; go_loud (refine wpList_appK rfl _ _ rfl w3.heap.size _ _ [] A rfl rfl ?own (R2'.out.below (below_lit _)) ?b ?n (fun _ => ⟨_, _, rfl⟩) ?_))
      case own => exact World.ownsRow_lit w3 #[] 0 (Nat.le_refl _) (Nat.zero_le _) rfl
      case b => simp
      case n => simp; omega
      intro v4 w4 hown hgrow hwh
      have HO4 := Lib.hid hown
      have HB4 : Hid (Below w3.heap.size w3 w4) := ((Below.refl _ _).alloc (Nat.le_refl _) _).grown hgrow (by simp) (fun q hq => by cases hq; exact Nat.le_refl _)
      clear hown hgrow hwh R2' HCa hp3 hg3 hw3
      go_wp2_with fail
      refine (CB.out _ (below_nextT H3.out HB4.out) (by omega)).mono ?_
      rintro e w5 ⟨v5, rfl, hr, hnew, hb⟩
      have HB5 : Hid (Below w3.heap.size w3 w5) := HB4.out.trans (hb.mono HB4.out.size)
      have HO5 := Lib.hid (HO4.out.below hb)
      have HS5 : Hid (ApartV v4 v5) := fun k hk a m c hv e => by
        have h1 := (World.ownsRow.lt HO4.out k hk).2
        have h2 := hnew a m c hv
        omega
      have HR5 := Lib.hid hr
      obtain ⟨ab, cb, rfl, _⟩ := hr
      clear hb hnew HO4 HB4
      have hbl2 : ((B.length : Nat) : Int) ≤ 700 := by omega
      go_wp2_with fail
      go_loopw [9, 11] (fun ov iv wr => ∃ (i : Nat) (O : List (ByteArray × Int)), iv = .int .i64 (i : Int) ∧ i ≤ B.length ∧ Hid (O.length = A.length + i) ∧ Hid (O = A ++ shiftK n (B.take i)) ∧ Hid (KRow w3.heap.size wr ov O) ∧ Hid (RdK wr (.slice ab B.length cb) B) ∧ Hid (ApartV ov (.slice ab B.length cb)) ∧ Hid (Below w3.heap.size w3 wr)) (fun _ iv _ => B.length - (intOf iv).toNat)
      case atStart => exact ⟨0, A, rfl, Nat.zero_le _, rfl, by rw [List.take_zero]; exact (List.append_nil A).symm, HO5, HR5, HS5, HB5⟩
      case round =>
        obtain ⟨i, O, rfl, hi, HOl, HOe, HO, HR, HS, HB⟩ := hrel
        clear HO5 HR5 HS5 HB5
        by_cases hlt : i < B.length
        · have hil : ((i : Nat) : Int) < B.length := by omega
          have h5 : 0 ≤ (i : Int) := by omega
          have h6 : (i : Int).toNat = i := rfl
          obtain ⟨gb, offb, rfl, hgb, x0, x1⟩ := HR.out.at i hlt
          have hbd := HAt.out i B[i] (List.getElem?_eq_getElem hlt)
          have HOe2 : Hid (O ++ [((B[i]).1, (B[i]).2 + (n : Int))] = A ++ shiftK n (B.take (i + 1))) := by
            show _ = _
            rw [HOe.out, List.append_assoc]
            congr 1
            unfold shiftK
            rw [List.take_succ_eq_append_getElem hlt, List.map_append]
            rfl
          generalize (B[i]).1 = T at *
          generalize (B[i]).2 = p at *
          have hw : IntKind.i64.wrap (p + (n : Int)) = p + (n : Int) := IntWalk.i64_in _ (by omega)
          obtain ⟨ao9, c9, rfl, _⟩ := HO.out.sl
          have hbd0 := hbd.1
          have hbd1 := hbd.2
          clear hbd
          go_wp2_with fail
          go_region_law (first
            | (refine step_appK (w := (wr.alloc (.cells #[.string T, .int .i64 (p + (n : Int))] 32)).drew) rfl (.tmp 54) (.tmp 68) rfl w3.heap.size (.slice ao9 O.length c9) (.slice (some ⟨wr.heap.size, 0, none⟩) 1 1) O [(T, p + (n : Int))] (by kernel_rfl) (by kernel_rfl) (HO.out.below ((below_lit _).drew)) ((lit_rdK (w := wr) [(T, p + (n : Int))] rfl rfl).below (Below.refl _ _).drew) ?b ?n (fun h => by cases h) ?_
               case b => have := HB.out.size; simp; omega
               case n => have := HOl.out; simp; omega
               intro v7 w7 hown hgrow hwh)
            | (trace_state; fail))
          all_goals
            have HO7 := Lib.hid hown
            have HB7 : Hid (Below w3.heap.size w3 w7) := ((HB.out.alloc HB.out.size _).drew).grown hgrow (by have := HB.out.size; simp; omega) (fun q hq => (World.ownsRow.lt HO.out q hq).1)
            have HR7 : Hid (RdK w7 (.slice (some ⟨gb, offb, none⟩) B.length cb) B) := (HR.out.below ((below_lit _).drew)).grown hgrow HS.out
            have HS7 : Hid (ApartV v7 (.slice (some ⟨gb, offb, none⟩) B.length cb)) := fun k hk a m c hv e => by
              rcases hwh k hk with h | h
              · exact HS.out k h a m c hv e
              · injection hv with e1 _ _
                injection e1 with e1
                subst e1
                have h : wr.heap.size + 1 ≤ k := by simpa using h
                dsimp only at e
                omega
            have HOl7 : Hid ((O ++ [(T, p + (n : Int))]).length = A.length + (i + 1)) := by
              show _ = _
              rw [List.length_append, HOl.out]; rfl
            clear hown hgrow hwh HO HB HR HS
            go_wp2
            go_roundw
            case rel => exact ⟨i + 1, _, by go_num, by omega, HOl7, HOe2, HO7, HR7, HS7, HB7⟩
            case measure => simp [intOf]; omega
        · obtain rfl : i = B.length := by omega
          have HRf : Hid (RdK wr u9 (A ++ shiftK n B)) := by
            have := HO.out.rd
            rw [HOe.out, List.take_length] at this
            exact this
          have HBf := Lib.hid (below_nextT H3.out HB.out)
          clear HO HR HS HB HOl HOe
          go_wp2_with fail
          refine (CE.out _ HBf.out HZ2.out).mono ?_
          rintro e w6 ⟨v6, rfl, hr, _, hb⟩
          have H6 := Lib.hid (below_nextT HBf.out hb)
          have R6 := Lib.hid hr
          have R6' := Lib.hid (HRf.out.below hb)
          clear hb hr CE HRf
          go_wp2_with fail
          refine (DS.out _ _ _ R6.out R6'.out).mono ?_
          rintro e w7 ⟨rfl, hb⟩
          have H7 := Lib.hid (below_nextT H6.out hb)
          clear hb
          go_wp2
          go_ret
          exact ⟨rfl, H7.out⟩
    · go_enter Tryd.func5, Tryd.ntmps5
      go_wp2_with fail
      refine CS.out.mono ?_
      rintro e w1 ⟨rfl, hb⟩
      have H1 := Lib.hid hb
      clear hb
      go_wp2
      go_ret
      exact ⟨rfl, H1.out⟩
  · go_enter Tryd.func5, Tryd.ntmps5
    go_wp2_with fail
    refine CS.out.mono ?_
    rintro e w1 ⟨rfl, hb⟩
    have H1 := Lib.hid hb
    clear hb
    go_wp2
    go_ret
    exact ⟨rfl, H1.out⟩
end Go.Proofs.YtbblmpibekkbfaaDoor
