/- The document's terms of a text: the walk. -/
import Derived.Test.YtbblmpibekkbfaaDoorTIns
import Derived.Deep.DeepCutAuto
import Derived.Deep.CutBlock
namespace Go.Proofs.YtbblmpibekkbfaaDoor
open Go.RowKit

theorem toksL_len : ∀ (l : List ByteArray) (i : Nat), (toksL l i).length ≤ l.length
  | [], _ => Nat.le_refl _
  | g :: r, i => by
    have := toksL_len r (i + 1)
    cases h : keepT (foldedL g.data.toList) with
    | true => rw [toksL_yes h]; simp only [List.length_cons]; omega
    | false => rw [toksL_no h]; simp only [List.length_cons]; omega
theorem TRow.mono {B B' : Nat} {w : World} {v : Value} {L : List ByteArray} (h : TRow B w v L) (hb : B' ≤ B) : TRow B' w v L := by
  refine ⟨h.1, ?_⟩
  rcases h.2 with hn | ⟨g, cap, cur, rfl, hbg, rest⟩
  · exact .inl hn
  · exact .inr ⟨g, cap, cur, rfl, Nat.le_trans hb hbg, rest⟩
set_option maxRecDepth 100000 in
set_option maxHeartbeats 4000000 in
theorem xterms_any (s : ByteArray) (w : World) (hs : s.size ≤ 100000) : Calls Tryd.prog 14 #[.string s] w fun e w' => ∃ v, e = .returned v ∧ TRow w.heap.size w' v (termsL (toksL (wordsL s.data.toList) 0)) ∧ Below w.heap.size w w' := by
  have hw := words_small s.data.toList
  rw [data_len] at hw
  have CT := Lib.hid (xtokens_any s w hs ⟨by omega, fun g hg => Nat.le_trans (hw.2 g hg) hs⟩)
  have hL : (toksL (wordsL s.data.toList) 0).length ≤ 100000 := Nat.le_trans (toksL_len _ _) (by omega)
  clear hw
  generalize toksL (wordsL s.data.toList) 0 = L at *
  obtain ⟨F, hF⟩ : ∃ F, termsL L = F := ⟨_, rfl⟩
  have HE0 := Lib.hid hF
  rw [hF]
  clear hF
  go_enter Tryd.func14, Tryd.ntmps14
  go_wp2_with fail
  refine CT.out.mono ?_
  rintro e w1 ⟨lv, rfl, hrow, hb1⟩
  obtain ⟨ao, c, rfl, hcell⟩ := hrow.sl
  have HL := Lib.hid hcell
  have HB1 := Lib.hid hb1
  have hl0 : ((L.length : Nat) : Int) ≤ 100000 := by omega
  clear hcell hrow hb1 CT
  go_wp2_with fail
  go_loopw [3, 5] (fun ov iv wr => ∃ (i : Nat) (o : List ByteArray), iv = .int .i64 (i : Int) ∧ i ≤ L.length ∧ o.length ≤ i ∧ Hid (((L.drop i).map (·.1)).foldl insT o = F) ∧ Hid (TRow w1.heap.size wr ov o) ∧ Hid (Below w1.heap.size w1 wr)) (fun _ iv _ => L.length - (intOf iv).toNat)
  case atStart => exact ⟨0, [], rfl, by omega, Nat.le_refl _, HE0.out, World.ownsRow_nil _ _ _ _, Below.refl _ _⟩
  case round =>
    obtain ⟨i, o, rfl, hi1, hoi, HE, HO, HB⟩ := hrel
    by_cases hlt : i < L.length
    · obtain ⟨g, hao, hg1, hc, _⟩ := HL.out i hlt
      subst hao
      have c0 : wr.cell? ⟨g, i * 2, none⟩ = some (.string L[i].1) := (HB.out.cell (p := ⟨g, i * 2, none⟩) hg1).trans hc
      have hE := HE.out
      rw [List.drop_eq_getElem_cons hlt, List.map_cons, List.foldl_cons] at hE
      have hil : ((i : Nat) : Int) < L.length := by omega
      generalize L[i].1 = T at *
      have HE2 := Lib.hid hE
      clear HE hc hE
      have h3 : 0 ≤ (i : Int) := by omega
      have h4 : (i : Int).toNat = i := rfl
      obtain ⟨ao2, c2, rfl, hcell2⟩ := HO.out.sl
      have HC := Lib.hid hcell2
      clear hcell2
      have ho0 : ((o.length : Nat) : Int) ≤ 100000 := by omega
      go_upto_block 2 with fail
      go_cut [6] (fun u wx => u = .int .i64 (posT o T : Nat) ∧ Hid (Below wr.heap.size wr wx))
      case first =>
        go_wp2_with fail
        go_loopw [6] (fun kv wk => ∃ k : Nat, kv = .int .i64 (k : Int) ∧ k ≤ posT o T ∧ Hid (Below wr.heap.size wr wk)) (fun kv _ => posT o T - (intOf kv).toNat)
        case atStart => exact ⟨0, rfl, Nat.zero_le _, Below.refl _ _⟩
        case round =>
          obtain ⟨k, rfl, hk, HX⟩ := hrel
          have c0 := (HX.out.cell (p := ⟨g, i * 2, none⟩) (Nat.lt_of_lt_of_le hg1 HB.out.size)).trans c0
          have hp := posT_le o T
          have h5 : 0 ≤ (k : Int) := by omega
          have h6 : (k : Int).toNat = k := rfl
          by_cases hko : k < o.length
          · obtain ⟨g2, hao, hg2, hc2⟩ := HC.out k hko
            subst hao
            have hc2 := (HX.out.cell (p := ⟨g2, k, none⟩) hg2).trans hc2
            have hkl : ((k : Nat) : Int) < o.length := by omega
            have hlo : lessT o[k] T = decide (k < posT o T) := by
              have h : ∀ q (hq : q < o.length), q = posT o T → lessT o[q] T = false := fun q hq e => by subst e; exact posT_at o T hq
              by_cases hk1 : k < posT o T
              · rw [posT_lo o T k hko hk1]; simp [hk1]
              · rw [h k hko (by omega)]; simp [hk1]
            generalize o[k] = A at *
            obtain ⟨b, hb⟩ : ∃ b, decide (k < posT o T) = b := ⟨_, rfl⟩
            have hle : Op.bytesLess A.toList T.toList = b := hlo.trans hb
            have HD := Lib.hid hb
            clear hb hlo
            go_wp2_with fail
            go_region
            cases b
            · have hke : k = posT o T := by have := of_decide_eq_false HD.out; omega
              clear hle
              go_wp2
              go_meet
              exact ⟨by rw [← hke], HX.out.drew⟩
            · have hk1 := of_decide_eq_true HD.out
              clear hle
              go_wp2
              go_roundw
              case rel => exact ⟨k + 1, by go_num, by omega, HX.out.drew⟩
              case measure => simp [intOf]; omega
          · obtain rfl : k = o.length := by omega
            have hkp : o.length = posT o T := by omega
            clear hko hk HE2 HL
            go_wp2_with fail
            go_region
            go_wp2
            go_meet
            exact ⟨by rw [← hkp], HX.out.drew⟩
      case rest =>
        obtain ⟨rfl, HX⟩ := hcut
        have HB9 : Hid (Below w1.heap.size w1 wc) := HB.out.trans (HX.out.mono HB.out.size)
        have c9 := (HX.out.cell (p := ⟨g, i * 2, none⟩) (Nat.lt_of_lt_of_le hg1 HB.out.size)).trans c0
        have HO9 : Hid (TRow w1.heap.size wc (.slice ao2 o.length c2) o) := HO.out.below HX.out
        have hp := posT_le o T
        have HI : Hid (insT o T = if decide (o[posT o T]? = some T) = true then o else o.take (posT o T) ++ T :: o.drop (posT o T)) := by
          show insT o T = _
          unfold insT
          by_cases h : o[posT o T]? = some T
          · rw [if_pos h, if_pos (decide_eq_true h)]
          · rw [if_neg h, if_neg (by simpa using h)]
        have HG := Lib.hid fun hk => posT_at o T hk
        generalize posT o T = k at *
        have h5 : 0 ≤ (k : Int) := by omega
        have h6 : (k : Int).toNat = k := rfl
        clear HO HB c0
        obtain ⟨b, hb⟩ : ∃ b, decide (o[k]? = some T) = b := ⟨_, rfl⟩
        rw [hb] at HI
        have HD := Lib.hid hb
        clear hb
        go_upto_region 9 with fail
        go_cut [48] (fun u wx => u = .bool (!b) ∧ Hid (Below wc.heap.size wc wx))
        case first =>
          by_cases hko : k < o.length
          · obtain ⟨g2, hao, hg2, hc2⟩ := HC.out k hko
            subst hao
            have hc2 := (HX.out.cell (p := ⟨g2, k, none⟩) hg2).trans hc2
            have hkl : ((k : Nat) : Int) < o.length := by omega
            have hne : ((k : Int) == (o.length : Int)) = false := beq_eq_false_iff_ne.2 (by omega)
            have hle : ((o[k] : ByteArray).toList == T.toList) = b := by
              rw [← HD.out, List.getElem?_eq_getElem hko]
              by_cases h : o[k] = T
              · rw [h]; simp
              · rw [beq_eq_false_iff_ne.2 (fun e => h (ByteArray.ext (Array.ext' (by rw [← ByteArray.toList_eq, ← ByteArray.toList_eq]; exact e)))), decide_eq_false (by simpa using h)]
            generalize o[k] = A at *
            clear HD HI HG
            go_wp2_with fail
            go_region
            go_wp2
            go_meet
            exact ⟨rfl, (Below.refl _ _).drew⟩
          · have hne : ((k : Int) == (o.length : Int)) = true := beq_iff_eq.2 (by omega)
            have hbf : b = false := by
              rw [← HD.out, List.getElem?_eq_none (by omega)]; rfl
            subst hbf
            clear HD HI HG
            go_wp2_with fail
            go_region
            go_wp2
            go_meet
            exact ⟨rfl, (Below.refl _ _).drew⟩
        case rest =>
          obtain ⟨rfl, HX9⟩ := hcut
          cases b
          case true =>
            have HE3 : Hid (((L.drop (i + 1)).map (·.1)).foldl insT o = F) := by
              have := HE2.out
              rw [HI.out, if_pos rfl] at this
              exact this
            go_wp2
            go_roundw
            case rel => exact ⟨i + 1, o, by go_num, by omega, by omega, HE3.out, HO9.out.below HX9.out, HB9.out.trans (HX9.out.mono HB9.out.size)⟩
            case measure => simp [intOf]; omega
          · have HE3 : Hid (((L.drop (i + 1)).map (·.1)).foldl insT (o.take k ++ T :: o.drop k) = F) := by
              have := HE2.out
              rw [HI.out, if_neg (by simp)] at this
              exact this
            clear HD HI HG
            have HB10 : Hid (Below w1.heap.size w1 wc) := HB9.out.trans (HX9.out.mono HB9.out.size)
            have c10 := (HX9.out.cell (p := ⟨g, i * 2, none⟩) (Nat.lt_of_lt_of_le hg1 HB9.out.size)).trans c9
            obtain ⟨hkc, hap1, hap2⟩ := ins_ap (HO9.out.below HX9.out) hp (by omega)
            have HA1 := Lib.hid hap1
            obtain ⟨rao, hrao⟩ : ∃ rao, (if c2 = k then ao2 else Option.map (fun x => x.add k) ao2) = rao := ⟨_, rfl⟩
            rw [hrao] at hap2
            have HA2 := Lib.hid hap2
            have hg3 : g < wc.heap.size := Nat.lt_of_lt_of_le hg1 HB10.out.size
            clear hap1 hap2 HO9 HX9 c9 HX HB9 HC
            have hkl : ((k : Nat) : Int) ≤ o.length := by omega
            have hkc2 : ((k : Nat) : Int) ≤ c2 := by omega
            go_wp2_with fail
            have hlk : (o.take k).length = k := by rw [List.length_take]; omega
            go_region_law (first
              | (refine step_appS (w := (wc.alloc (.cells #[] 9)).drew) HA1.out rfl (.tmp 49) (.tmp 52) rfl (.slice (some ⟨wc.heap.size, 0, none⟩) 0 0) [] (by kernel_rfl) (by kernel_rfl) ?hW (by simp) ?own ?_
                 case hW => exact ((Below.refl _ _).alloc (Nat.le_refl _) _).drew
                 case own => exact World.ownsRow_lit wc #[] 0 (Nat.le_refl _) (Nat.zero_le _) rfl
                 intro v1 w9 hown hb9 hgrow
                 rw [List.nil_append] at hown
                 obtain ⟨v1o, v1c, rfl⟩ := hown.shape hlk
                 have HV1 := Lib.hid hown
                 have HBx := Lib.hid hb9
                 have c11 := (hb9.cell (p := ⟨g, i * 2, none⟩) hg3).trans c10
                 clear hown hgrow hb9)
              | (refine step_appS (w := ((wc.alloc (.cells #[] 9)).alloc (.cells #[.string T] 9)).drew) HA1.out rfl (.tmp 49) (.tmp 52) rfl (.slice (some ⟨wc.heap.size, 0, none⟩) 0 0) [] (by kernel_rfl) (by kernel_rfl) ?hW (by simp) ?own ?_
                 case hW => exact (((Below.refl _ _).alloc (Nat.le_refl _) _).alloc (by simp) _).drew
                 case own => exact World.ownsRow.alloc (World.ownsRow_lit wc #[] 0 (Nat.le_refl _) (Nat.zero_le _) rfl) (.cells #[.string T] 9)
                 intro v1 w9 hown hb9 hgrow
                 rw [List.nil_append] at hown
                 obtain ⟨v1o, v1c, rfl⟩ := hown.shape hlk
                 have HV1 := Lib.hid hown
                 have HBx := Lib.hid hb9
                 have c11 := (hb9.cell (p := ⟨g, i * 2, none⟩) hg3).trans c10
                 have HL2 : Hid (w9.heap[wc.heap.size + 1]? = some (.cells #[.string T] 9 (0, 0))) := (grown_blockT hgrow (by simp; try omega) (by simp [Value.ownBlock]; try omega)).trans (alloc2_newT wc (.cells #[] 9) (.cells #[.string T] 9))
                 clear hown hgrow hb9)
              | (refine step_appS (w := ((wc.alloc (.cells #[.string T] 9)).alloc (.cells #[] 9)).drew) HA1.out rfl (.tmp 49) (.tmp 52) rfl (.slice (some ⟨wc.heap.size + 1, 0, none⟩) 0 0) [] (by kernel_rfl) (by kernel_rfl) ?hW (by simp) ?own ?_
                 case hW => exact (((Below.refl _ _).alloc (Nat.le_refl _) _).alloc (by simp) _).drew
                 case own => exact empty_own wc (.cells #[.string T] 9)
                 intro v1 w9 hown hb9 hgrow
                 rw [List.nil_append] at hown
                 obtain ⟨v1o, v1c, rfl⟩ := hown.shape hlk
                 have HV1 := Lib.hid hown
                 have HBx := Lib.hid hb9
                 have c11 := (hb9.cell (p := ⟨g, i * 2, none⟩) hg3).trans c10
                 have HL3 : Hid (w9.heap[wc.heap.size]? = some (.cells #[.string T] 9 (0, 0))) := (grown_blockT hgrow (by simp; try omega) (by simp [Value.ownBlock]; try omega)).trans (alloc_keepT (heap_alloc_newT wc (.cells #[.string T] 9)))
                 clear hown hgrow hb9)
              | (refine step_litS (X := wc) (w := w9.alloc (.cells #[.string T] 9)) (heap_alloc_newT _ _) rfl (.tmp 53) (.tmp 59) rfl (.slice v1o k v1c) (o.take k) (by kernel_rfl) (by kernel_rfl) ?hW (by omega) ?own ?_
                 case hW => exact HBx.out.alloc HBx.out.size _
                 case own => exact HV1.out.alloc _
                 intro v3 w10 hown hb10 _
                 obtain ⟨v3o, v3c, rfl⟩ := hown.shape (n := k + 1) (by rw [List.length_append, hlk]; rfl)
                 have HV3 := Lib.hid hown
                 have HBy := Lib.hid hb10
                 clear hown hb10)
              | (refine step_litS (X := wc) (w := w9) HL2.out rfl (.tmp 53) (.tmp 59) rfl (.slice v1o k v1c) (o.take k) (by kernel_rfl) (by kernel_rfl) ?hW (by omega) ?own ?_
                 case hW => exact HBx.out
                 case own => exact HV1.out
                 intro v3 w10 hown hb10 _
                 obtain ⟨v3o, v3c, rfl⟩ := hown.shape (n := k + 1) (by rw [List.length_append, hlk]; rfl)
                 have HV3 := Lib.hid hown
                 have HBy := Lib.hid hb10
                 clear hown hb10)
              | (refine step_litS (X := wc) (w := w9) HL3.out rfl (.tmp 53) (.tmp 59) rfl (.slice v1o k v1c) (o.take k) (by kernel_rfl) (by kernel_rfl) ?hW (by omega) ?own ?_
                 case hW => exact HBx.out
                 case own => exact HV1.out
                 intro v3 w10 hown hb10 _
                 obtain ⟨v3o, v3c, rfl⟩ := hown.shape (n := k + 1) (by rw [List.length_append, hlk]; rfl)
                 have HV3 := Lib.hid hown
                 have HBy := Lib.hid hb10
                 clear hown hb10)
              | (refine step_appS (w := w10) HA2.out rfl (.tmp 60) (.tmp 63) rfl (.slice v3o (k + 1) v3c) (o.take k ++ [T]) (by kernel_rfl) (by kernel_rfl) ?hW3 (by rw [List.length_append, hlk, List.length_singleton]; omega) ?own3 ?_
                 case hW3 => exact HBy.out
                 case own3 => exact HV3.out
                 intro v5 w11 hown hb11 _
                 have HV5 := Lib.hid hown
                 have HBz := Lib.hid hb11
                 clear hown hb11)
              | (trace_state; fail))
            all_goals
              have HV6 : Hid (TRow w1.heap.size w11 v5 (o.take k ++ T :: o.drop k)) := by
                have := HV5.out.mono HB10.out.size
                rwa [List.append_assoc] at this
              have HBw : Hid (Below w1.heap.size w1 w11) := HB10.out.trans (HBz.out.mono HB10.out.size)
              have hlen6 : (o.take k ++ T :: o.drop k).length ≤ i + 1 := by
                rw [List.length_append, List.length_cons, List.length_take, List.length_drop]; omega
              clear HV5 HBz HV3 HBy HV1 HBx c11
              go_wp2
              go_roundw
              case rel => exact ⟨i + 1, _, by go_num, by omega, hlen6, HE3.out, HV6.out, HBw.out⟩
              case measure => simp [intOf]; omega
    · have HE2 : Hid (o = F) := by
        have := HE.out
        rw [List.drop_eq_nil_of_le (by omega)] at this
        exact this
      have hil : ¬ ((i : Nat) : Int) < L.length := by omega
      clear HE
      go_wp2_with fail
      go_ret
      exact ⟨_, rfl, by rw [← HE2.out]; exact TRow.mono HO.out HB1.out.size, HB1.out.trans (HB.out.mono HB1.out.size)⟩
end Go.Proofs.YtbblmpibekkbfaaDoor
