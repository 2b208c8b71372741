/- What Unpack answers: what was packed, or why there is nothing. -/
import Derived.Test.YtodfcbpimglhdaaFHead
namespace Go.Proofs.Ytodfcbpimglhdaa.Fr
open Go.RowKit

/-- The writes of a head, the first k with their data. -/
def filled (q : List UInt8) (n : Nat) (D : List ByteArray) (k : Nat) : List (Int × ByteArray) := (List.range n).map fun i => (((nmAt q (4 * i) : Nat) : Int), if i < k then D.getD i ⟨#[]⟩ else ⟨#[]⟩)
theorem filled_len (q : List UInt8) (n : Nat) (D : List ByteArray) (k : Nat) : (filled q n D k).length = n := by simp [filled]
theorem filled_zero (q : List UInt8) (n : Nat) (D : List ByteArray) : filled q n D 0 = takenL q n := by
  unfold filled takenL
  apply List.map_congr_left
  intro i _
  rw [if_neg (by omega)]
theorem filled_at (q : List UInt8) (n : Nat) (D : List ByteArray) (k i : Nat) (h : i < n) : (filled q n D k)[i]'(by rw [filled_len]; exact h) = (((nmAt q (4 * i) : Nat) : Int), if i < k then D.getD i ⟨#[]⟩ else ⟨#[]⟩) := by
  simp [filled]
theorem filled_set (q : List UInt8) (n : Nat) (D : List ByteArray) (k : Nat) (h : k < n) (hD : k < D.length) : (filled q n D k).set k (((filled q n D k)[k]'(by rw [filled_len]; exact h)).1, D[k]) = filled q n D (k + 1) := by
  apply List.ext_getElem
  · simp [filled_len]
  · intro i h1 h2
    rw [filled_len] at h2
    rw [filled_at q n D (k + 1) i h2, List.getElem_set]
    by_cases e : k = i
    · subst e
      rw [if_pos rfl]
      refine Prod.ext ?_ ?_
      · show ((filled q n D k)[k]'(by rw [filled_len]; exact h)).1 = _
        rw [filled_at q n D k k h]
      · show D[k] = if k < k + 1 then D.getD k ⟨#[]⟩ else ⟨#[]⟩
        rw [if_pos (by omega)]; simp [hD]
    · rw [if_neg e, filled_at q n D k i h2]
      by_cases hi : i < k
      · rw [if_pos hi, if_pos (by omega)]
      · rw [if_neg hi, if_neg (by omega)]
theorem OwnW.storeN {B : Nat} {w : World} {g c n : Nat} {L L' : List (Int × ByteArray)} (h : OwnW B w (.slice (some ⟨g, 0, none⟩) n c) L) (hn : L.length = n) (j : Nat) (hj : j < L.length) (s : ByteArray) (hL : L.set j (L[j].1, s) = L') :
    OwnW B (w.setCell ⟨g, j * 2 + 1, none⟩ (.string s)) (.slice (some ⟨g, 0, none⟩) n c) L' := by
  subst hn
  rw [← hL]; exact h.storeD j hj s
theorem filled_all (l : List UInt8) (D : List ByteArray) (hn : nmAt l 12 ≤ D.length) (h48 : nmAt l 12 ≤ 48) : filled ((l.take 248).drop 16) (nmAt l 12) D (nmAt l 12) = (blocksOf l).zip (D.take (nmAt l 12)) := by
  apply List.ext_getElem
  · rw [filled_len, List.length_zip, blocksOf_len, List.length_take]; omega
  · intro i h1 h2
    rw [filled_len] at h1
    rw [filled_at _ _ _ _ _ h1, if_pos h1, List.getElem_zip]
    refine Prod.ext ?_ ?_
    · simp only [blocksOf, List.getElem_map, List.getElem_range]
      rw [nmAt_drop, nmAt_take _ _ _ (by omega)]
    · have : i < D.length := by omega
      simp [this]

set_option maxRecDepth 100000 in
set_option maxHeartbeats 1000000 in
theorem unpack_none (ao : Option Addr) (c : Nat) (w : World) :
    Calls Try.prog 95 #[.slice ao 0 c] w fun e w' => e = .returned (.tuple #[.int .u64 0, .slice none 0 0, .int .i64 7]) ∧ Below w.heap.size w w' := by
  go_enter Try.func95, Try.ntmps95
  go_wp2
  go_ret3
  exact ⟨rfl, Below.refl _ _⟩
set_option maxRecDepth 100000 in
set_option maxHeartbeats 1000000 in
theorem unpack_nohead (s : ByteArray) (m b off c : Nat) (w : World) (h : headB s.data.toList = false) (hm : m ≤ 1000) (hc : w.cell? ⟨b, off, none⟩ = some (.string s)) :
    Calls Try.prog 95 #[.slice (some ⟨b, off, none⟩) (m + 1) c] w fun e w' => e = .returned (.tuple #[.int .u64 0, .slice none 0 0, .int .i64 7]) ∧ Below w.heap.size w w' := by
  have C := Lib.hid (readHead_no s w h)
  clear h
  have h0 : (((m : Int) + 1) == 0) = false := beq_eq_false_iff_ne.2 (by omega)
  go_enter Try.func95, Try.ntmps95
  go_wp2_with fail
  refine C.out.mono ?_
  rintro e w1 ⟨rfl, hb1⟩
  have HB := Lib.hid hb1; clear hb1 C
  go_wp2
  go_ret3
  exact ⟨rfl, HB.out⟩
set_option maxRecDepth 100000 in
set_option maxHeartbeats 1000000 in
theorem unpack_few (s : ByteArray) (m b off c : Nat) (w : World) (h : headB s.data.toList = true) (hm : m ≤ 1000) (hn : m < nmAt s.data.toList 12) (hc : w.cell? ⟨b, off, none⟩ = some (.string s)) :
    Calls Try.prog 95 #[.slice (some ⟨b, off, none⟩) (m + 1) c] w fun e w' => e = .returned (.tuple #[.int .u64 0, .slice none 0 0, .int .i64 7]) ∧ Below w.heap.size w w' := by
  have C := Lib.hid (readHead_yes s w h)
  clear h
  have h0 : (((m : Int) + 1) == 0) = false := beq_eq_false_iff_ne.2 (by omega)
  generalize seqOf s.data.toList = sq at *
  generalize nmAt s.data.toList 12 = n at *
  go_enter Try.func95, Try.ntmps95
  go_wp2_with fail
  refine C.out.mono ?_
  rintro e w1 ⟨v, rfl, ho, hb1⟩
  have HB := Lib.hid hb1; clear hb1 C
  obtain ⟨ao, c2, hv, _⟩ := ho.sl
  rw [takenL_len] at hv
  subst hv
  clear ho
  go_wp2
  go_ret3
  exact ⟨rfl, HB.out⟩

set_option maxRecDepth 100000 in
set_option maxHeartbeats 4000000 in
theorem unpack_head (s : ByteArray) (D : List ByteArray) (b off c : Nat) (w : World) (R : Ending → World → Prop) (h : headB s.data.toList = true) (hm : D.length ≤ 1000) (hn : nmAt s.data.toList 12 ≤ D.length) (hcap : D.length ≤ c) (hb : b < w.heap.size) (hD : ∀ d ∈ D, d.size ≤ maxLen)
    (hc : StrsAt w b off (s :: D))
    (hform : (¬ ∀ d ∈ D.take (nmAt s.data.toList 12), d.size = 256) → ∀ w', Below w.heap.size w w' → R (.returned (.tuple #[.int .u64 0, .slice none 0 0, .int .i64 7])) w')
    (hsum : (∀ d ∈ D.take (nmAt s.data.toList 12), d.size = 256) → sumB s D = false → ∀ w', Below w.heap.size w w' → R (.returned (.tuple #[.int .u64 0, .slice none 0 0, .int .i64 8])) w')
    (hok : (∀ d ∈ D.take (nmAt s.data.toList 12), d.size = 256) → sumB s D = true → ∀ v w', OwnW w.heap.size w' v ((blocksOf s.data.toList).zip (D.take (nmAt s.data.toList 12))) → Below w.heap.size w w' → R (.returned (.tuple #[.int .u64 ((seqOf s.data.toList : Nat) : Int), v, .int .i64 0])) w') :
    Calls Try.prog 95 #[.slice (some ⟨b, off, none⟩) (D.length + 1) (c + 1)] w R := by
  obtain ⟨k1, k2, k3, k4, k5, k6⟩ := (headB_iff _).1 h
  have hsz : s.size = 256 := by rw [← str_len, k1]
  have C := Lib.hid (readHead_yes s w h)
  have HFA := Lib.hid (filled_all s.data.toList D hn k5)
  rw [← filled_zero _ _ D] at C
  have hc0 := hc 0 (by simp)
  simp only [Nat.add_zero, List.getElem_cons_zero] at hc0
  have HC := Lib.hid hc.tail
  have HCC := Lib.hid hc
  have HF := Lib.hid hform
  have HS := Lib.hid hsum
  have HO := Lib.hid hok
  have HDD := Lib.hid hD
  have h248 := nmAt_lt s.data.toList 248
  obtain ⟨T1, hT1⟩ : ∃ T, s.extract 248 s.size = T := ⟨_, rfl⟩
  have hT1' : s.extract 248 256 = T1 := by rw [← hT1, hsz]
  have F1 : Hid (∀ W, ∃ T2, Calls Try.prog 93 #[.string T1] W fun e w' => e = .returned (.tuple #[.int .u32 ((nmAt s.data.toList 248 : Nat) : Int), .string T2, .bool true]) ∧ Below W.heap.size W w') := fun W =>
    ⟨_, toFixed_at W (by rw [← hT1, ← bs_data s, bs_ext, bs_len, data_bs, List.take_of_length_le (Nat.le_refl _)]) rfl (by omega) (by omega)⟩
  have CS : Hid (∀ W, Below w.heap.size w W → Calls Try.prog 86 #[.slice (some ⟨b, off, none⟩) (nmAt s.data.toList 12 + 1) (c + 1)] W fun e w' => e = .returned (.int .u32 ((crcL (s.data.toList.take 248 ++ joinB (D.take (nmAt s.data.toList 12))) : Nat) : Int)) ∧ Below W.heap.size W w') := by
    intro W hW
    have e : (D.take (nmAt s.data.toList 12)).length = nmAt s.data.toList 12 := by rw [List.length_take]; omega
    have := sum_any s (D.take (nmAt s.data.toList 12)) b off c W (by omega) (by omega) (by omega) (by omega) (fun d hd => HDD.out d (List.mem_of_mem_take hd)) (Nat.lt_of_lt_of_le hb hW.size) (fun j hj => by
      have hj' : j < (s :: D).length := by simp at hj ⊢; omega
      rw [(hc.below hW hb) j hj']
      cases j with
      | zero => rfl
      | succ j => simp)
    rw [e] at this
    exact this
  have hcl := crcL_lt (s.data.toList.take 248 ++ joinB (D.take (nmAt s.data.toList 12)))
  have HSB : Hid (sumB s D = (nmAt s.data.toList 248 == crcL (s.data.toList.take 248 ++ joinB (D.take (nmAt s.data.toList 12))))) := rfl
  clear hD hc h k1 k2 k3 k6 hform hsum hok
  generalize crcL (s.data.toList.take 248 ++ joinB (D.take (nmAt s.data.toList 12))) = sm at *
  generalize seqOf s.data.toList = sq at *
  generalize nmAt s.data.toList 248 = told at *
  generalize (s.data.toList.take 248).drop 16 = q at *
  generalize blocksOf s.data.toList = bl at *
  generalize nmAt s.data.toList 12 = n at *
  obtain ⟨m, hmm⟩ : ∃ m, D.length = m := ⟨_, rfl⟩
  rw [hmm] at hm hn hcap ⊢
  have HM := Lib.hid hmm; clear hmm
  have h0 : (((m : Int) + 1) == 0) = false := beq_eq_false_iff_ne.2 (by omega)
  have h1 : ¬ ((m : Int) + 1 ≤ (n : Int)) := by omega
  go_enter Try.func95, Try.ntmps95
  go_wp2_with fail
  refine C.out.mono ?_
  rintro e w1 ⟨v, rfl, ho, hb1⟩
  have HB1 := Lib.hid hb1
  obtain ⟨g, c2, hv, hc2, hg1, hg2, hst, hfr⟩ := ho.here (by rw [filled_len]; omega)
  rw [filled_len] at hv hc2
  subst hv
  have HO1 := Lib.hid ho
  clear ho hb1 C hst hfr
  go_wp2_with fail
  go_loopw [34] (fun i wr => ∃ k : Nat, k ≤ n ∧ i = .int .i64 k ∧ Hid (∀ d ∈ D.take k, d.size = 256) ∧ Hid (OwnW w.heap.size wr (.slice (some ⟨g, 0, none⟩) n c2) (filled q n D k)) ∧ Hid (Below w.heap.size w wr)) (fun i _ => n - (intOf i).toNat)
  case atStart => exact ⟨0, Nat.zero_le _, rfl, (fun d hd => by simp at hd), HO1, HB1⟩
  case round =>
    clear HO1 HB1
    obtain ⟨k, hk, rfl, HK, HOK, HB⟩ := hrel
    by_cases hlt : k < n
    · have hkD : k < D.length := by rw [HM.out]; omega
      have hst := HOK.out.here (by rw [filled_len]; omega)
      obtain ⟨g', c3, hv, _, _, hgl, hst, hfr⟩ := hst
      rw [filled_len] at hv
      obtain ⟨rfl, rfl⟩ : g = g' ∧ c2 = c3 := by simpa using hv
      have hf1 := hfr (k * 2 + 1)
      obtain ⟨d0, d1⟩ := hst k (by rw [filled_len]; exact hlt)
      rw [Nat.zero_add] at d0 d1
      rw [filled_at _ _ _ _ _ hlt, if_neg (by omega)] at d1
      have hsrc := (HC.out.below HB.out hb) k hkD
      have HST : Hid (∀ W, OwnW w.heap.size W (.slice (some ⟨g, 0, none⟩) n c2) (filled q n D k) → OwnW w.heap.size (W.setCell ⟨g, k * 2 + 1, none⟩ (.string D[k])) (.slice (some ⟨g, 0, none⟩) n c2) (filled q n D (k + 1))) := by
        intro W hW
        exact hW.storeN (filled_len ..) k (by rw [filled_len]; exact hlt) D[k] (filled_set q n D k hlt hkD)
      have hdz := HDD.out D[k] (List.getElem_mem hkD)
      unfold maxLen at hdz
      have HTK : Hid (D.take (k + 1) = D.take k ++ [D[k]]) := List.take_succ_eq_append_getElem hkD
      have HMEM : Hid (D[k] ∈ D.take n) := by
        rw [List.mem_take_iff_getElem]
        exact ⟨k, by omega, rfl⟩
      clear hst hfr hv d0
      generalize D[k] = d at *
      have hsum1 : off + 1 + k = off + (k + 1) := by omega
      rw [hsum1] at hsrc
      clear hsum1
      have i2 : (k : Int) + 1 < (m : Int) + 1 := by omega
      by_cases hd : d.size = 256
      · have HK2 : Hid (∀ d ∈ D.take (k + 1), d.size = 256) := by
          intro x hx
          rw [HTK.out] at hx
          rcases List.mem_append.1 hx with hx | hx
          · exact HK.out x hx
          · simp at hx; rw [hx]; exact hd
        have hne : ((d.size : Int) != 256) = false := by simp; omega
        clear hd
        go_wp2
        go_roundw
        case rel => exact ⟨k + 1, by omega, by go_num, HK2, HST.out _ HOK.out, HB.out.setCell hg1 _⟩
        case measure => simp [intOf]; omega
      · have HNO : Hid (¬ ∀ d ∈ D.take n, d.size = 256) := fun hh => hd (hh _ HMEM.out)
        have hne : ((d.size : Int) != 256) = true := by simp; omega
        clear hd
        go_wp2
        go_ret3
        exact HF.out HNO.out _ (HB.out.setCell hg1 _)
    · have hkn : k = n := by omega
      subst hkn
      obtain ⟨T2, hF⟩ := F1.out wr
      have HF1 := Lib.hid hF; clear hF F1
      have hc0' := (HB.out.cell (p := ⟨b, off, none⟩) hb).trans hc0
      go_wp2_with fail
      refine HF1.out.mono ?_
      rintro e w2 ⟨rfl, hb2⟩
      have HB2 := Lib.hid (HB.out.trans (hb2.mono HB.out.size))
      have HO2 : Hid (OwnW w.heap.size w2 (.slice (some ⟨g, 0, none⟩) k c2) (bl.zip (D.take k))) := by
        show OwnW _ _ _ _
        rw [← HFA.out]; exact HOK.out.below hb2
      clear hb2 HF1 HOK HB hc0'
      go_wp2_with fail
      refine (CS.out _ HB2.out).mono ?_
      rintro e w3 ⟨rfl, hb3⟩
      have HB3 := Lib.hid (HB2.out.trans (hb3.mono HB2.out.size))
      have HO3 := Lib.hid (HO2.out.below hb3)
      clear hb3 CS HO2
      by_cases ht : told = sm
      · have HT : Hid (sumB s D = true) := by show _ = _; rw [HSB.out]; simpa using ht
        have hne : ((told : Int) != (sm : Int)) = false := by simp; omega
        clear ht
        go_wp2
        go_ret3
        exact HO.out HK.out HT.out _ _ HO3.out HB3.out
      · have HT : Hid (sumB s D = false) := by show _ = _; rw [HSB.out]; simpa using ht
        have hne : ((told : Int) != (sm : Int)) = true := by simp; omega
        clear ht
        go_wp2
        go_ret3
        exact HS.out HK.out HT.out _ HB3.out

theorem unpack_any (L : List ByteArray) (v : Value) (w : World) (hl : L.length ≤ 1000) (hs : ∀ d ∈ L, d.size ≤ maxLen) (h : SlS w v L) :
    Calls Try.prog 95 #[v] w fun e w' => ∃ u, e = .returned (.tuple #[.int .u64 (((unp L).1 : Nat) : Int), u, .int .i64 (((unp L).2.2 : Nat) : Int)]) ∧ OwnW w.heap.size w' u (unp L).2.1 ∧ Below w.heap.size w w' := by
  cases L with
  | nil =>
    obtain ⟨ao, c, rfl, _⟩ := h
    exact (unpack_none ao c w).mono fun e w' ⟨he, hb⟩ => ⟨_, he, OwnW.nil _ _, hb⟩
  | cons s D =>
    obtain ⟨b, off, c, rfl, hcap, hb, hc⟩ := h.here (by simp)
    obtain ⟨c', rfl⟩ : ∃ c', c = c' + 1 := ⟨c - 1, by simp at hcap; omega⟩
    have hc0 := hc 0 (by simp)
    simp only [Nat.add_zero, List.getElem_cons_zero] at hc0
    have hl' : D.length ≤ 1000 := by simp at hl; omega
    rw [unp_cons]
    cases hh : headB s.data.toList with
    | false =>
      have hf : ¬ formB s D = true := fun hf => by rw [((formB_iff s D).1 hf).1] at hh; cases hh
      rw [if_neg hf]
      exact (unpack_nohead s D.length b off (c' + 1) w hh hl' hc0).mono fun e w' ⟨he, hb⟩ => ⟨_, he, OwnW.nil _ _, hb⟩
    | true =>
      by_cases hn : nmAt s.data.toList 12 ≤ D.length
      · refine unpack_head s D b off c' w _ hh hl' hn (by simp at hcap; omega) hb (fun d hd => hs d (List.mem_cons_of_mem _ hd)) hc ?_ ?_ ?_
        · intro hno w' hb
          have hf : ¬ formB s D = true := fun hf => hno ((formB_iff s D).1 hf).2.2
          rw [if_neg hf]
          exact ⟨_, rfl, OwnW.nil _ _, hb⟩
        · intro hall hsm w' hb
          rw [if_pos ((formB_iff s D).2 ⟨hh, hn, hall⟩), if_neg (by rw [hsm]; decide)]
          exact ⟨_, rfl, OwnW.nil _ _, hb⟩
        · intro hall hsm v w' ho hb
          rw [if_pos ((formB_iff s D).2 ⟨hh, hn, hall⟩), if_pos hsm]
          exact ⟨_, rfl, ho, hb⟩
      · have hf : ¬ formB s D = true := fun hf => hn ((formB_iff s D).1 hf).2.1
        rw [if_neg hf]
        exact (unpack_few s D.length b off (c' + 1) w hh hl' (by omega) hc0).mono fun e w' ⟨he, hb⟩ => ⟨_, he, OwnW.nil _ _, hb⟩
end Go.Proofs.Ytodfcbpimglhdaa.Fr
