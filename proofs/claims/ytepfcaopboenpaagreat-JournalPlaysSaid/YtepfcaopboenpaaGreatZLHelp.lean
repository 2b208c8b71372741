/- What the statements' own helpers answer: pick, full, data, sameTexts, fine. -/
import Derived.Test.YtepfcaopboenpaaGreatZTextB
import Derived.Test.YtepfcaopboenpaaGreatZSettle
import Derived.Test.YtepfcaopboenpaaGreatZFBase
import Derived.BigQuiet
import Derived.Deep.QuietTactic
import Derived.Handy
import Derived.Lib.MinMax

namespace Go.Proofs.YtepfcaopboenpaaGreat
open Go.RowKit
open Fr (SlS StrsAt)

theorem rowI_end' (f : Nat → Int) (k : Nat) (h : ∀ i, k ≤ i → f i = 0) : rowI f k = rowI f 256 := by
  unfold rowI
  apply List.map_congr_left
  intro i hi
  have hi' := List.mem_range.1 hi
  by_cases h2 : i < k
  · rw [if_pos h2, if_pos hi']
  · rw [if_neg h2, if_pos hi', h i (by omega)]
def pickI (c n : Int) : Int := (if c < 0 then -(c + 1) else c) % n
theorem pickI_lt (c n : Int) (hn : 0 < n) : 0 ≤ pickI c n ∧ pickI c n < n := ⟨Int.emod_nonneg _ (by omega), Int.emod_lt_of_pos _ hn⟩

set_option maxRecDepth 100000 in
set_option maxHeartbeats 400000 in
theorem pick_any (c n : Int) (w : World) (hc : -9223372036854775808 ≤ c ∧ c ≤ 9223372036854775807) (hn : 0 < n ∧ n ≤ 1000000) :
    Calls Tryz.prog 11 #[.int .i64 c, .int .i64 n] w fun e w' => e = .returned (.int .i64 (pickI c n)) ∧ w = w' := by
  have hne : (n == 0) = false := by simp; omega
  have hm1 : (n == -1) = false := by simp; omega
  by_cases h : c < 0
  · have HP : Hid (pickI c n = -((c + 1).tmod n)) := by
      show pickI c n = _; unfold pickI
      rw [if_pos h, ← Int.neg_tmod, Int.tmod_eq_emod_of_nonneg (by omega)]
    go_enter Tryz.func11, Tryz.ntmps11
    go_wp2
    go_ret
    exact ⟨by rw [HP.out]; rfl, rfl⟩
  · have HP : Hid (pickI c n = c % n) := by show pickI c n = _; unfold pickI; rw [if_neg h]
    have h0 : 0 ≤ c := by omega
    go_enter Tryz.func11, Tryz.ntmps11
    go_wp2
    go_ret
    exact ⟨by rw [HP.out]; rfl, rfl⟩

set_option maxRecDepth 100000 in
set_option maxHeartbeats 1000000 in
theorem full_any (c : Int) (w : World) :
    Calls Tryz.prog 28 #[.int .u8 c] w fun e w' => e = .returned (.string (textOf fun _ => c)) ∧ Below w.heap.size w w' := by
  obtain ⟨i0, hi, hz0, hz1, hz2⟩ := info_parts Tryz.infoB
  go_enter Tryz.func28, Tryz.ntmps28
  go_wp2_with (at_make; refine wpList_make_full _ rfl _ _ 92 rfl w.heap.size 5 i0 (.int .u8 0) 1 Tryz.underlying92 hi hz0 hz1 _ _ _ _ 256 rfl rfl rfl rfl (by rw [hz2]; decide) (by unfold maxLen; omega) (Nat.le_refl _) ?_)
  intro w1 hown hgrow
  have HR : Hid (Row w.heap.size w1 w.heap.size (fun _ => c) 0) := by
    show w1.ownsRow _ _ _ _ _ _
    rw [rowI_zero]
    rw [toList_madeCells_one] at hown
    exact hown
  have HB : Hid (Below w.heap.size w w1) := (Below.refl _ _).grown hgrow (Nat.le_refl _) (fun k h => by cases h)
  clear hown hgrow
  generalize hg : w.heap.size = g at *
  have HG := Lib.hid hg; clear hg
  go_wp2_with fail
  go_loopw [4] (fun i wr => ∃ k : Nat, k ≤ 256 ∧ i = .int .i64 k ∧ Hid (Row g wr g (fun _ => c) k) ∧ Hid (Below g w wr)) (fun i _ => 256 - (intOf i).toNat)
  case atStart => exact ⟨0, Nat.zero_le _, rfl, HR, HB⟩
  case round =>
    clear HR HB
    obtain ⟨k, hk, rfl, HR, HB⟩ := hrel
    by_cases hlt : k < 256
    · have hc := HR.out.cell k hlt
      have hf := HR.out.free k
      simp only [Nat.lt_irrefl, if_false] at hc
      go_wp2
      go_roundw
      case rel => exact ⟨k + 1, by omega, by go_num, HR.out.store hlt, HB.out.setCell (Nat.le_refl _) _⟩
      case measure => simp [intOf]; omega
    · have hk' : k = 256 := by omega
      subst hk'
      have hconv := HR.out.text
      obtain ⟨T, hT⟩ : ∃ T, textOf (fun _ => c) = T := ⟨_, rfl⟩
      rw [hT] at hconv
      have HT := Lib.hid hT; clear hT
      go_wp2
      go_ret
      exact ⟨by rw [HT.out]; rfl, by rw [HG.out]; exact HB.out⟩

/-- The bytes of which data makes a block. -/
def byteAt (s : ByteArray) (i : Nat) : Int := ((s.data.toList.getD (min i (s.size - 1)) 0).toNat : Int)
theorem byteAt_get (s : ByteArray) (i j : Nat) (h : j < s.size) (hj : j = min i (s.size - 1)) : byteAt s i = (s[j].toNat : Int) := by
  unfold byteAt
  rw [← hj]
  have h' : j < s.data.toList.length := by simpa using h
  simp only [List.getD, List.getElem?_eq_getElem h', Option.getD_some]
  rfl
theorem byteAt_none (s : ByteArray) (i : Nat) (h : s.size = 0) : byteAt s i = 0 := by
  unfold byteAt
  have h' : s.data.toList = [] := List.eq_nil_of_length_eq_zero (by simpa using h)
  rw [h']; rfl

set_option maxRecDepth 100000 in
set_option maxHeartbeats 2000000 in
theorem data_any (s : ByteArray) (w : World) (hs : s.size ≤ 600) :
    Calls Tryz.prog 43 #[.string s] w fun e w' => e = .returned (.string (textOf (byteAt s))) ∧ Below w.heap.size w w' := by
  obtain ⟨i0, hi, hz0, hz1, hz2⟩ := info_parts Tryz.infoB
  have HZ2 := Lib.hid hz2; clear hz2
  go_enter Tryz.func43, Tryz.ntmps43
  go_wp2_with (at_make; refine wpList_make_full _ rfl _ _ 92 rfl w.heap.size 5 i0 (.int .u8 0) 1 Tryz.underlying92 hi hz0 hz1 _ _ _ _ 256 rfl rfl rfl rfl (by rw [HZ2.out]; decide) (by unfold maxLen; omega) (Nat.le_refl _) ?_)
  intro w1 hown hgrow
  have HR : Hid (Row w.heap.size w1 w.heap.size (byteAt s) 0) := by
    show w1.ownsRow _ _ _ _ _ _
    rw [rowI_zero]
    rw [toList_madeCells_one] at hown
    exact hown
  have HB : Hid (Below w.heap.size w w1) := (Below.refl _ _).grown hgrow (Nat.le_refl _) (fun k h => by cases h)
  clear hown hgrow
  generalize hg : w.heap.size = g at *
  have HG := Lib.hid hg; clear hg
  go_wp2_with fail
  go_loopw [4] (fun i wr => ∃ k : Nat, k ≤ 256 ∧ i = .int .i64 k ∧ Hid (Row g wr g (byteAt s) k) ∧ Hid (Below g w wr)) (fun i _ => 256 - (intOf i).toNat)
  case atStart => exact ⟨0, Nat.zero_le _, rfl, HR, HB⟩
  case round =>
    clear HR HB
    obtain ⟨k, hk, rfl, HR, HB⟩ := hrel
    by_cases h0 : s.size = 0
    · have HE : Hid (Row g wr g (byteAt s) 256) := by
        show Row g wr g (byteAt s) 256
        have : rowI (byteAt s) k = rowI (byteAt s) 256 := rowI_end' (byteAt s) k (fun i _ => byteAt_none s i h0)
        unfold Row; rw [← this]; exact HR.out
      have hconv := HE.out.text
      obtain ⟨T, hT⟩ : ∃ T, textOf (byteAt s) = T := ⟨_, rfl⟩
      rw [hT] at hconv
      have HT := Lib.hid hT; clear hT HR
      have h0' : ¬ (0 : Int) < (s.size : Int) := by omega
      have h0d : decide ((0 : Int) < (s.size : Int)) = false := decide_eq_false h0'
      clear h0
      by_cases hlt : k < 256
      · go_wp2
        go_ret
        exact ⟨by rw [HT.out]; rfl, by rw [HG.out]; exact HB.out⟩
      · go_wp2
        go_ret
        exact ⟨by rw [HT.out]; rfl, by rw [HG.out]; exact HB.out⟩
    · have hpos : (0 : Int) < (s.size : Int) := by omega
      by_cases hlt : k < 256
      · have hc := HR.out.cell k hlt
        have hf := HR.out.free k
        rw [if_neg (Nat.lt_irrefl _)] at hc
        have hks : (min (k : Int) ((s.size : Int) - 1)).toNat < s.size := by omega
        have HE : Hid (Row g (wr.setCell ⟨g, k, none⟩ (.int .u8 (s[(min (k : Int) ((s.size : Int) - 1)).toNat].toNat : Int))) g (byteAt s) (k + 1)) := by
          have := HR.out.store hlt
          rw [byteAt_get s k (min (k : Int) ((s.size : Int) - 1)).toNat hks (by omega)] at this
          exact this
        have m0 : (0 : Int) ≤ min (k : Int) ((s.size : Int) - 1) := by omega
        have m1 : min (k : Int) ((s.size : Int) - 1) < (s.size : Int) := by omega
        go_wp2
        go_roundw
        case rel => exact ⟨k + 1, by omega, by go_num, HE, HB.out.setCell (Nat.le_refl _) _⟩
        case measure => simp [intOf]; omega
      · have hk' : k = 256 := by omega
        subst hk'
        have hconv := HR.out.text
        obtain ⟨T, hT⟩ : ∃ T, textOf (byteAt s) = T := ⟨_, rfl⟩
        rw [hT] at hconv
        have HT := Lib.hid hT; clear hT
        go_wp2
        go_ret
        exact ⟨by rw [HT.out]; rfl, by rw [HG.out]; exact HB.out⟩

set_option maxRecDepth 100000 in
set_option maxHeartbeats 1000000 in
theorem same_dec (L M : List ByteArray) (u v : Value) (w : World) (hl : L.length ≤ 5000) (hlm : M.length = L.length) (h : SlS w u L) (h2 : SlS w v M) :
    Calls Tryz.prog 21 #[u, v] w fun e w' => e = .returned (.bool (decide (L = M))) ∧ Below w.heap.size w w' := by
  obtain ⟨ao, c, rfl, _, hc⟩ := h
  obtain ⟨ao2, c2, rfl, _, hc2⟩ := h2
  have HC : Hid (∀ k (hk : k < L.length) (hk2 : k < M.length), ∃ b off b2 off2, ao = some ⟨b, off, none⟩ ∧ ao2 = some ⟨b2, off2, none⟩ ∧ w.cell? ⟨b, off + k, none⟩ = some (.string L[k]) ∧ w.cell? ⟨b2, off2 + k, none⟩ = some (.string M[k])) := by
    intro k hk hk2
    rcases hc with rfl | ⟨b, off, e, _, hw⟩
    · simp at hk
    · rcases hc2 with rfl | ⟨b2, off2, e2, _, hw2⟩
      · simp at hk2
      · exact ⟨b, off, b2, off2, e, e2, hw k hk, hw2 k hk2⟩
  clear hc hc2
  rw [hlm]
  obtain ⟨n, hn⟩ : ∃ n, L.length = n := ⟨_, rfl⟩
  rw [hn] at hl hlm ⊢
  have HN := Lib.hid hn; clear hn
  have HM := Lib.hid hlm; clear hlm
  go_enter Tryz.func21, Tryz.ntmps21
  go_wp2
  go_loopw [5] (fun i wr => ∃ k : Nat, k ≤ n ∧ i = .int .i64 k ∧ Hid (L.take k = M.take k) ∧ ∃ m, wr = w.drewN m) (fun i _ => n - (intOf i).toNat)
  case atStart => exact ⟨0, Nat.zero_le _, rfl, rfl, 0, rfl⟩
  case round =>
    obtain ⟨k, hk, rfl, HT, m, rfl⟩ := hrel
    by_cases hlt : k < n
    · have hkL : k < L.length := by rw [HN.out]; exact hlt
      have hkM : k < M.length := by rw [HM.out]; exact hlt
      obtain ⟨b, off, b2, off2, rfl, rfl, c1, c2⟩ := HC.out k hkL hkM
      have i1 : (k : Int) < (n : Int) := by omega
      by_cases he : L[k] = M[k]
      · have HT2 : Hid (L.take (k + 1) = M.take (k + 1)) := by show _ = _; rw [take_snocL L k hkL, take_snocL M k hkM, HT.out, he]
        rw [he] at c1
        generalize M[k] = q at *
        clear he
        have hne : (!(q.toList == q.toList)) = false := by simp
        go_wp2
        go_quiet (fail)
        go_wp2
        go_roundw
        case rel => exact ⟨k + 1, by omega, by go_num, HT2, _, rfl⟩
        case measure => simp [intOf]; omega
      · have HD : Hid (decide (L = M) = false) := by
          show _ = _
          apply decide_eq_false
          intro e
          subst e
          exact he rfl
        have hne : (!(L[k].toList == M[k].toList)) = true := by rw [Fr.str_diff he]; rfl
        generalize L[k] = q at *
        generalize M[k] = r at *
        clear he
        go_wp2
        go_quiet (fail)
        go_wp2
        go_ret
        exact ⟨by rw [HD.out]; rfl, Fr.below_drewN (Fr.below_drewN (Below.refl _ _) _) _⟩
    · have HD : Hid (decide (L = M) = true) := by
        show _ = _
        apply decide_eq_true
        have h1 := HT.out
        rw [List.take_of_length_le (by rw [HN.out]; omega), List.take_of_length_le (by rw [HM.out]; omega)] at h1
        exact h1
      go_wp2
      go_ret
      exact ⟨by rw [HD.out]; rfl, Fr.below_drewN (Below.refl _ _) _⟩

end Go.Proofs.YtepfcaopboenpaaGreat
