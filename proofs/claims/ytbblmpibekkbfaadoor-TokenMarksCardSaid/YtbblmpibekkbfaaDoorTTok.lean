/- The document's tokens of a text. -/
import Derived.Test.YtbblmpibekkbfaaDoorTWordsW
namespace Go.Proofs.YtbblmpibekkbfaaDoor
open Go.RowKit

/-- What is kept as a term. -/
def keepT (L : List UInt8) : Bool := !isStop L && decide (L.length ≤ 40)
def toksL : List ByteArray → Nat → List (ByteArray × Int)
  | [], _ => []
  | g :: r, i => if keepT (foldedL g.data.toList) = true then (utxt (foldedL g.data.toList), (i : Int)) :: toksL r (i + 1) else toksL r (i + 1)
def flatK : List (ByteArray × Int) → List Value
  | [] => []
  | (t, i) :: r => .string t :: .int .i64 i :: flatK r
theorem toksL_no {g : ByteArray} {r : List ByteArray} {i : Nat} (h : keepT (foldedL g.data.toList) = false) : toksL (g :: r) i = toksL r (i + 1) := by
  show (if _ then _ else _) = _
  rw [if_neg (by rw [h]; simp)]
theorem toksL_yes {g : ByteArray} {r : List ByteArray} {i : Nat} (h : keepT (foldedL g.data.toList) = true) : toksL (g :: r) i = (utxt (foldedL g.data.toList), (i : Int)) :: toksL r (i + 1) := by
  show (if _ then _ else _) = _
  rw [if_pos h]
theorem flatK_app : ∀ a b : List (ByteArray × Int), flatK (a ++ b) = flatK a ++ flatK b
  | [], _ => rfl
  | (t, i) :: a, b => by show _ :: _ :: flatK (a ++ b) = _ :: _ :: (flatK a ++ flatK b); rw [flatK_app a b]
/-- A row of tokens of one's own. -/
def KRow (B : Nat) (w : World) (v : Value) (L : List (ByteArray × Int)) : Prop := w.ownsRow B 32 2 v L.length (flatK L)
theorem infoK : (Tryd.prog.info? 32).map (fun i => (i.zero, i.size, i.bytes)) = some (some (.agg #[.string ⟨#[]⟩, .int .i64 0]), 2, 24) := by kernel_rfl
theorem TRow.sl {B : Nat} {w : World} {v : Value} {L : List ByteArray} (h : TRow B w v L) : ∃ ao c, v = .slice ao L.length c ∧ ∀ j (hj : j < L.length), ∃ g, ao = some ⟨g, 0, none⟩ ∧ g < w.heap.size ∧ w.cell? ⟨g, j, none⟩ = some (.string L[j]) := by
  by_cases h0 : 0 < L.length
  · obtain ⟨g, c, hv, _, _, hg, hc, _⟩ := h.here h0
    exact ⟨_, c, hv, fun j hj => ⟨g, rfl, hg, hc j hj⟩⟩
  · rcases h.2 with ⟨hv, hn⟩ | ⟨g, cap, cur, rfl, _⟩
    · exact ⟨none, 0, by rw [hv, show L.length = 0 by omega], fun j hj => absurd hj (by omega)⟩
    · exact ⟨_, cap, rfl, fun j hj => absurd hj (by omega)⟩
theorem KRow.below {B : Nat} {w w' : World} {v : Value} {L : List (ByteArray × Int)} (h : KRow B w v L) (hb : Below w.heap.size w w') : KRow B w' v L := own_belowU h hb
theorem KRow.low {B : Nat} {w : World} {v : Value} {L : List (ByteArray × Int)} (h : KRow B w v L) {k : Nat} (hk : v.ownBlock = some k) : B ≤ k := by
  rcases h.2 with ⟨rfl, _⟩ | ⟨g, cap, cur, rfl, hbg, _⟩
  · cases hk
  · have : g = k := by injection hk
    omega
theorem KRow.mono {B B' : Nat} {w : World} {v : Value} {L : List (ByteArray × Int)} (h : KRow B w v L) (hb : B' ≤ B) : KRow B' w v L := by
  refine ⟨h.1, ?_⟩
  rcases h.2 with hn | ⟨g, cap, cur, rfl, hbg, rest⟩
  · exact .inl hn
  · exact .inr ⟨g, cap, cur, rfl, Nat.le_trans hb hbg, rest⟩
theorem two_cellK {w : World} {t : TypeId} {s : ByteArray} {i : Int} {g : Nat} (hg : w.heap.size = g) : ∀ (j : Nat) (u : Value), [Value.string s, Value.int .i64 i][j]? = some u → (w.alloc (.cells #[.string s, .int .i64 i] t)).cell? ((⟨g, 0, none⟩ : Addr).add j) = some u := by
  subst hg
  intro j u hu
  rw [add_atT, Nat.zero_add, cell_atT (heap_alloc_newT ..)]
  rw [← hu]; simp
theorem two_oneK {s : ByteArray} {i : Int} : ∀ u ∈ [Value.string s, Value.int .i64 i], u.oneCell' = true := by
  intro u hu
  simp only [List.mem_cons, List.not_mem_nil, or_false] at hu
  rcases hu with rfl | rfl <;> rfl

set_option maxRecDepth 100000 in
set_option maxHeartbeats 4000000 in
theorem xtokens_any (s : ByteArray) (w : World) (hs : s.size ≤ 100000) (hw : (wordsL s.data.toList).length ≤ 100000 ∧ ∀ g ∈ wordsL s.data.toList, g.size ≤ 100000) : Calls Tryd.prog 11 #[.string s] w fun e w' => ∃ v, e = .returned v ∧ KRow w.heap.size w' v (toksL (wordsL s.data.toList) 0) ∧ Below w.heap.size w w' := by
  obtain ⟨i0, hi, hz0, hz1, hz2⟩ := info_parts infoK
  have HZ2 := Lib.hid hz2; clear hz2
  have CW := Lib.hid (xwords_any s w hs)
  obtain ⟨hl, hg⟩ := hw
  have HG := Lib.hid hg; clear hg
  generalize wordsL s.data.toList = L at *
  obtain ⟨F, hF⟩ : ∃ F, toksL L 0 = F := ⟨_, rfl⟩
  have HE0 := Lib.hid hF
  rw [hF]
  clear hF
  go_enter Tryd.func11, Tryd.ntmps11
  go_wp2_with fail
  refine CW.out.mono ?_
  rintro e w1 ⟨lv, rfl, hrow, hb1⟩
  obtain ⟨ao, c, rfl, hcell⟩ := hrow.sl
  have HL := Lib.hid hcell
  have HB1 := Lib.hid hb1
  have hl0 : ((L.length : Nat) : Int) ≤ 100000 := by omega
  clear hcell hrow hb1 CW
  have HF : Hid (∀ (t : ByteArray) W, t.size ≤ 100000 → Calls Tryd.prog 22 #[.string t] W fun e w' => e = .returned (.string (utxt (foldedL t.data.toList))) ∧ Below W.heap.size W w') := fun t W h => xfolded_any t W h
  have HS : Hid (∀ (t : ByteArray) W, Calls Tryd.prog 16 #[.string t] W fun e w' => e = .returned (.bool (isStop t.data.toList)) ∧ Below W.heap.size W w') := fun t W => xstop_any t W
  go_wp2_with fail
  go_loopw [3, 5] (fun ov iv wr => ∃ (i : Nat) (o : List (ByteArray × Int)), iv = .int .i64 (i : Int) ∧ i ≤ L.length ∧ o.length ≤ i ∧ Hid (o ++ toksL (L.drop i) i = F) ∧ Hid (KRow w1.heap.size wr ov o) ∧ Hid (Below w1.heap.size w1 wr)) (fun _ iv _ => L.length - (intOf iv).toNat)
  case atStart => exact ⟨0, [], rfl, by omega, Nat.le_refl _, HE0.out, World.ownsRow_nil _ _ _ _, Below.refl _ _⟩
  case round =>
    obtain ⟨i, o, rfl, hi1, hoi, HE, HO, HB⟩ := hrel
    by_cases hlt : i < L.length
    · obtain ⟨g, hao, hg1, hc⟩ := HL.out i hlt
      subst hao
      have c0 : wr.cell? ⟨g, i, none⟩ = some (.string L[i]) := (HB.out.cell (p := ⟨g, i, none⟩) hg1).trans hc
      have hE := HE.out
      rw [List.drop_eq_getElem_cons hlt] at hE
      have hgs := HG.out L[i] (List.getElem_mem hlt)
      have hil : ((i : Nat) : Int) < L.length := by omega
      generalize L[i] = G at *
      have CF := Lib.hid (HF.out G wr hgs)
      clear HE hc
      have h3 : 0 ≤ (i : Int) := by omega
      have h4 : (i : Int).toNat = i := rfl
      have HSz : Hid ((utxt (foldedL G.data.toList)).size = (foldedL G.data.toList).length) := utxt_size _
      have HSt := Lib.hid (fun W => HS.out (utxt (foldedL G.data.toList)) W)
      rw [utxt_data] at HSt
      have HN : Hid (keepT (foldedL G.data.toList) = false → toksL (G :: L.drop (i + 1)) i = toksL (L.drop (i + 1)) (i + 1)) := toksL_no
      have HY : Hid (keepT (foldedL G.data.toList) = true → toksL (G :: L.drop (i + 1)) i = (utxt (foldedL G.data.toList), (i : Int)) :: toksL (L.drop (i + 1)) (i + 1)) := toksL_yes
      have hE2 := Lib.hid hE
      clear hE
      have hD : keepT (foldedL G.data.toList) = (!isStop (foldedL G.data.toList) && decide ((foldedL G.data.toList).length ≤ 40)) := rfl
      rw [hD] at HN HY
      clear hD
      generalize foldedL G.data.toList = T at *
      generalize isStop T = st at *
      have hsz := HSz.out
      generalize utxt T = U at *
      rw [← hsz] at HN HY
      clear hsz HSz HS HF
      cases st with
      | true =>
        have HE3 : Hid (o ++ toksL (L.drop (i + 1)) (i + 1) = F) := by
          show _ = _
          rw [← HN.out rfl]; exact hE2.out
        clear HN HY hE2
        go_wp2_with fail
        refine CF.out.mono ?_
        rintro e w2 ⟨rfl, hb2⟩
        have HB2 := Lib.hid (HB.out.trans (hb2.mono HB.out.size))
        have HO2 := Lib.hid (HO.out.below hb2)
        clear hb2 HB HO CF c0
        go_wp2_with fail
        refine (HSt.out _).mono ?_
        rintro e w3 ⟨rfl, hb3⟩
        have HB3 := Lib.hid (HB2.out.trans (hb3.mono HB2.out.size))
        have HO3 := Lib.hid (HO2.out.below hb3)
        clear hb3 HB2 HO2 HSt
        go_wp2
        go_roundw
        case rel => exact ⟨i + 1, o, by go_num, by omega, by omega, HE3.out, HO3.out, HB3.out⟩
        case measure => simp [intOf]; omega
      | false =>
        by_cases h40 : U.size ≤ 40
        · have HE3 : Hid (o ++ [(U, (i : Int))] ++ toksL (L.drop (i + 1)) (i + 1) = F) := by
            show _ = _
            rw [List.append_assoc]
            rw [List.singleton_append, ← HY.out (by rw [decide_eq_true h40]; rfl)]; exact hE2.out
          have h40i : ((U.size : Nat) : Int) ≤ 40 := by omega
          clear HN HY hE2
          go_wp2_with fail
          refine CF.out.mono ?_
          rintro e w2 ⟨rfl, hb2⟩
          have HB2 := Lib.hid (HB.out.trans (hb2.mono HB.out.size))
          have HO2 := Lib.hid (HO.out.below hb2)
          clear hb2 HB HO CF c0
          go_wp2_with fail
          refine (HSt.out _).mono ?_
          rintro e w3 ⟨rfl, hb3⟩
          have HB3 := Lib.hid (HB2.out.trans (hb3.mono HB2.out.size))
          have HO3 := Lib.hid (HO2.out.below hb3)
          clear hb3 HB2 HO2 HSt
          go_wp2_with (at_builtin; go_loud (refine wpList_append_own _ rfl _ _ 24 rfl w1.heap.size 32 i0 _ 2 24 Tryd.underlying24 hi hz0 hz1 HZ2.out rfl (by decide) _ _ _ rfl (HO3.out.alloc _) _ 1 1 [.string U, .int .i64 (i : Int)] rfl rfl (two_cellK (by simp)) two_oneK ?c3 ?c4 ?c5 ?_))
          case c3 => unfold maxLen; omega
          case c4 => omega
          case c5 => have := HB3.out.size; simp; omega
          intro v1 w4 hown hgrow _
          have HO4 : Hid (KRow w1.heap.size w4 v1 (o ++ [(U, (i : Int))])) := by
            show KRow _ _ _ _
            unfold KRow
            rw [List.length_append, flatK_app]
            exact hown
          have HB4 : Hid (Below w1.heap.size w1 w4) := (HB3.out.alloc HB3.out.size _).grown hgrow (by have := HB3.out.size; simp; omega) (fun q hq => HO3.out.low hq)
          clear hown hgrow HB3 HO3
          go_wp2
          go_roundw
          case rel => exact ⟨i + 1, o ++ [(U, (i : Int))], by go_num, by omega, by simp; omega, HE3.out, HO4.out, HB4.out⟩
          case measure => simp [intOf]; omega
        · have HE3 : Hid (o ++ toksL (L.drop (i + 1)) (i + 1) = F) := by
            show _ = _
            rw [← HN.out (by rw [decide_eq_false h40]; rfl)]; exact hE2.out
          have h40i : ¬ ((U.size : Nat) : Int) ≤ 40 := by omega
          clear HN HY hE2
          go_wp2_with fail
          refine CF.out.mono ?_
          rintro e w2 ⟨rfl, hb2⟩
          have HB2 := Lib.hid (HB.out.trans (hb2.mono HB.out.size))
          have HO2 := Lib.hid (HO.out.below hb2)
          clear hb2 HB HO CF c0
          go_wp2_with fail
          refine (HSt.out _).mono ?_
          rintro e w3 ⟨rfl, hb3⟩
          have HB3 := Lib.hid (HB2.out.trans (hb3.mono HB2.out.size))
          have HO3 := Lib.hid (HO2.out.below hb3)
          clear hb3 HB2 HO2 HSt
          go_wp2
          go_roundw
          case rel => exact ⟨i + 1, o, by go_num, by omega, by omega, HE3.out, HO3.out, HB3.out⟩
          case measure => simp [intOf]; omega
    · have HE2 : Hid (o = F) := by
        have := HE.out
        rw [List.drop_eq_nil_of_le (by omega)] at this
        show _ = _
        rw [← this]
        exact (List.append_nil o).symm
      have hil : ¬ ((i : Nat) : Int) < L.length := by omega
      clear HE
      go_wp2_with fail
      go_ret
      exact ⟨_, rfl, by rw [← HE2.out]; exact HO.out.mono HB1.out.size, HB1.out.trans (HB.out.mono HB1.out.size)⟩
end Go.Proofs.YtbblmpibekkbfaaDoor
