/- Rows of 256 bytes, and the texts that they are turned into. -/
import Derived.Test.YtodfcbpimglhdaaZB
import Derived.Lib.Hide
import Derived.Laws.BytesArg
import Derived.Test.YtodfcbpimglhdaaZC
import Derived.Test.YtodfcbpimglhdaaZF
import Derived.BigQuiet
import Derived.Deep.QuietTactic
import Derived.Handy
import Derived.Lib.MinMax
import Derived.Test.YtodfcbpimglhdaaZS
import Derived.Test.YtodfcbpimglhdaaZN

namespace Go.Proofs.Ytodfcbpimglhdaa
open Go.RowKit

/-- 256 numbers, of which the first k are f's, the others 0. -/
def rowI (f : Nat → Int) (k : Nat) : List Int := (List.range 256).map fun i => if i < k then f i else 0
theorem rowI_length (f : Nat → Int) (k : Nat) : (rowI f k).length = 256 := by simp [rowI]
theorem rowI_get (f : Nat → Int) (k i : Nat) (h : i < 256) : (rowI f k)[i]? = some (if i < k then f i else 0) := by simp [rowI, h]
theorem rowI_set (f : Nat → Int) (k : Nat) (h : k < 256) : (rowI f k).set k (f k) = rowI f (k + 1) := by
  apply List.ext_getElem?
  intro i
  by_cases hi : i < 256
  · rw [List.getElem?_set, rowI_get f (k + 1) i hi, rowI_length]
    by_cases e : k = i
    · subst e; simp [h]
    · simp only [e, if_false]
      rw [rowI_get f k i hi]
      by_cases h2 : i < k
      · rw [if_pos h2, if_pos (by omega)]
      · rw [if_neg h2, if_neg (by omega)]
  · rw [List.getElem?_eq_none (by simp [rowI_length]; omega), List.getElem?_eq_none (by simp [rowI_length]; omega)]
theorem rowI_stay (f : Nat → Int) (k : Nat) (h : f k = 0) : rowI f k = rowI f (k + 1) := by
  unfold rowI
  apply List.map_congr_left
  intro i _
  by_cases h2 : i < k
  · rw [if_pos h2, if_pos (by omega)]
  · by_cases e : i = k
    · subst e; simp [h]
    · rw [if_neg h2, if_neg (by omega)]
theorem zeros_any (f : Nat → Int) (n : Nat) : ((List.range n).map fun i => if i < 0 then f i else 0).map (Value.int .u8) = List.replicate n (Value.int .u8 0) := by
  induction n with
  | zero => rfl
  | succ n ih => rw [List.range_succ, List.map_append, List.map_append, ih, List.replicate_succ']; rfl
theorem rowI_zero (f : Nat → Int) : (rowI f 0).map (Value.int .u8) = List.replicate 256 (Value.int .u8 0) := zeros_any f 256
/-- The text of 256 bytes that f tells. -/
def textOf (f : Nat → Int) : ByteArray := strOfNums (rowI f 256)
theorem textOf_size (f : Nat → Int) : (textOf f).size = 256 := by unfold textOf; rw [strOfNums_size, rowI_length]
theorem textOf_eq (f : Nat → Int) : strOfNums (rowI f 256) = textOf f := rfl


/-- A row of 256 bytes at block g. -/
def Row (B : Nat) (w : World) (g : Nat) (f : Nat → Int) (k : Nat) : Prop := w.ownsRow B 5 1 (.slice (some ⟨g, 0, none⟩) 256 256) 256 ((rowI f k).map (Value.int .u8))
theorem Row.cell {B : Nat} {w : World} {g : Nat} {f : Nat → Int} {k : Nat} (h : Row B w g f k) (i : Nat) (hi : i < 256) : w.cell? ⟨g, i, none⟩ = some (.int .u8 (if i < k then f i else 0)) := by
  rw [World.ownsRow.cellAt h i (by omega), List.getElem?_map, rowI_get f k i hi]; rfl
theorem Row.free {B : Nat} {w : World} {g : Nat} {f : Nat → Int} {k : Nat} (h : Row B w g f k) (i : Nat) : w.frozen? ⟨g, i, none⟩ = false := World.ownsRow.frozenAt h i
theorem Row.store {B : Nat} {w : World} {g : Nat} {f : Nat → Int} {k : Nat} (h : Row B w g f k) (hk : k < 256) : Row B (w.setCell ⟨g, k, none⟩ (.int .u8 (f k))) g f (k + 1) := by
  have := (World.ownsRow.stored h k (.int .u8 (f k))).1
  unfold Row
  rw [← rowI_set f k hk, List.map_set]
  exact this
theorem Row.text {B : Nat} {w : World} {g : Nat} {f : Nat → Int} (h : Row B w g f 256) : (convert 78 9 (.slice (some ⟨g, 0, none⟩) 256 256)).run Try.prog w = .ok (.string (textOf f)) w := by
  refine run_convert_bytes_arg w 78 5 Try.underlying78 Try.underlying5 g 0 256 256 (rowI f 256) (rowI_length f 256) ?_ 9 Try.underlying9
  intro i hi
  rw [Nat.zero_add, h.cell i hi]
  simp [List.getD, rowI_get f 256 i hi]

end Go.Proofs.Ytodfcbpimglhdaa
/- What the statements' own helpers answer: pick, full, data, sameTexts, fine. -/
namespace Go.Proofs.Ytodfcbpimglhdaa
open Go.RowKit
open Fr (SlS StrsAt)

theorem rowI_end' (f : Nat → Int) (k : Nat) (h : ∀ i, k ≤ i → f i = 0) : rowI f k = rowI f 256 := by
  unfold rowI
  apply List.map_congr_left
  intro i hi
  have hi' := List.mem_range.1 hi
  by_cases h2 : i < k
  · rw [if_pos h2, if_pos hi']
  · rw [if_neg h2, if_pos hi', h i (by omega)]
def pickI (c n : Int) : Int := (if c < 0 then -(c + 1) else c) % n
theorem pickI_lt (c n : Int) (hn : 0 < n) : 0 ≤ pickI c n ∧ pickI c n < n := ⟨Int.emod_nonneg _ (by omega), Int.emod_lt_of_pos _ hn⟩

set_option maxRecDepth 100000 in
set_option maxHeartbeats 400000 in
theorem pick_any (c n : Int) (w : World) (hc : -9223372036854775808 ≤ c ∧ c ≤ 9223372036854775807) (hn : 0 < n ∧ n ≤ 1000000) :
    Calls Try.prog 10 #[.int .i64 c, .int .i64 n] w fun e w' => e = .returned (.int .i64 (pickI c n)) ∧ w = w' := by
  have hne : (n == 0) = false := by simp; omega
  have hm1 : (n == -1) = false := by simp; omega
  by_cases h : c < 0
  · have HP : Hid (pickI c n = -((c + 1).tmod n)) := by
      show pickI c n = _; unfold pickI
      rw [if_pos h, ← Int.neg_tmod, Int.tmod_eq_emod_of_nonneg (by omega)]
    go_enter Try.func10, Try.ntmps10
    go_wp2
    go_ret
    exact ⟨by rw [HP.out]; rfl, rfl⟩
  · have HP : Hid (pickI c n = c % n) := by show pickI c n = _; unfold pickI; rw [if_neg h]
    have h0 : 0 ≤ c := by omega
    go_enter Try.func10, Try.ntmps10
    go_wp2
    go_ret
    exact ⟨by rw [HP.out]; rfl, rfl⟩

set_option maxRecDepth 100000 in
set_option maxHeartbeats 1000000 in
theorem full_any (c : Int) (w : World) :
    Calls Try.prog 28 #[.int .u8 c] w fun e w' => e = .returned (.string (textOf fun _ => c)) ∧ Below w.heap.size w w' := by
  obtain ⟨i0, hi, hz0, hz1, hz2⟩ := info_parts Try.infoB
  go_enter Try.func28, Try.ntmps28
  go_wp2_with (at_make; refine wpList_make_full _ rfl _ _ 78 rfl w.heap.size 5 i0 (.int .u8 0) 1 Try.underlying78 hi hz0 hz1 _ _ _ _ 256 rfl rfl rfl rfl (by rw [hz2]; decide) (by unfold maxLen; omega) (Nat.le_refl _) ?_)
  intro w1 hown hgrow
  have HR : Hid (Row w.heap.size w1 w.heap.size (fun _ => c) 0) := by
    show w1.ownsRow _ _ _ _ _ _
    rw [rowI_zero]
    rw [toList_madeCells_one] at hown
    exact hown
  have HB : Hid (Below w.heap.size w w1) := (Below.refl _ _).grown hgrow (Nat.le_refl _) (fun k h => by cases h)
  clear hown hgrow
  generalize hg : w.heap.size = g at *
  have HG := Lib.hid hg; clear hg
  go_wp2_with fail
  go_loopw [4] (fun i wr => ∃ k : Nat, k ≤ 256 ∧ i = .int .i64 k ∧ Hid (Row g wr g (fun _ => c) k) ∧ Hid (Below g w wr)) (fun i _ => 256 - (intOf i).toNat)
  case atStart => exact ⟨0, Nat.zero_le _, rfl, HR, HB⟩
  case round =>
    clear HR HB
    obtain ⟨k, hk, rfl, HR, HB⟩ := hrel
    by_cases hlt : k < 256
    · have hc := HR.out.cell k hlt
      have hf := HR.out.free k
      simp only [Nat.lt_irrefl, if_false] at hc
      go_wp2
      go_roundw
      case rel => exact ⟨k + 1, by omega, by go_num, HR.out.store hlt, HB.out.setCell (Nat.le_refl _) _⟩
      case measure => simp [intOf]; omega
    · have hk' : k = 256 := by omega
      subst hk'
      have hconv := HR.out.text
      obtain ⟨T, hT⟩ : ∃ T, textOf (fun _ => c) = T := ⟨_, rfl⟩
      rw [hT] at hconv
      have HT := Lib.hid hT; clear hT
      go_wp2
      go_ret
      exact ⟨by rw [HT.out]; rfl, by rw [HG.out]; exact HB.out⟩

/-- The bytes of which data makes a block. -/
def byteAt (s : ByteArray) (i : Nat) : Int := ((s.data.toList.getD (min i (s.size - 1)) 0).toNat : Int)
theorem byteAt_get (s : ByteArray) (i j : Nat) (h : j < s.size) (hj : j = min i (s.size - 1)) : byteAt s i = (s[j].toNat : Int) := by
  unfold byteAt
  rw [← hj]
  have h' : j < s.data.toList.length := by simpa using h
  simp only [List.getD, List.getElem?_eq_getElem h', Option.getD_some]
  rfl
theorem byteAt_none (s : ByteArray) (i : Nat) (h : s.size = 0) : byteAt s i = 0 := by
  unfold byteAt
  have h' : s.data.toList = [] := List.eq_nil_of_length_eq_zero (by simpa using h)
  rw [h']; rfl

set_option maxRecDepth 100000 in
set_option maxHeartbeats 2000000 in
theorem data_any (s : ByteArray) (w : World) (hs : s.size ≤ 600) :
    Calls Try.prog 14 #[.string s] w fun e w' => e = .returned (.string (textOf (byteAt s))) ∧ Below w.heap.size w w' := by
  obtain ⟨i0, hi, hz0, hz1, hz2⟩ := info_parts Try.infoB
  have HZ2 := Lib.hid hz2; clear hz2
  go_enter Try.func14, Try.ntmps14
  go_wp2_with (at_make; refine wpList_make_full _ rfl _ _ 78 rfl w.heap.size 5 i0 (.int .u8 0) 1 Try.underlying78 hi hz0 hz1 _ _ _ _ 256 rfl rfl rfl rfl (by rw [HZ2.out]; decide) (by unfold maxLen; omega) (Nat.le_refl _) ?_)
  intro w1 hown hgrow
  have HR : Hid (Row w.heap.size w1 w.heap.size (byteAt s) 0) := by
    show w1.ownsRow _ _ _ _ _ _
    rw [rowI_zero]
    rw [toList_madeCells_one] at hown
    exact hown
  have HB : Hid (Below w.heap.size w w1) := (Below.refl _ _).grown hgrow (Nat.le_refl _) (fun k h => by cases h)
  clear hown hgrow
  generalize hg : w.heap.size = g at *
  have HG := Lib.hid hg; clear hg
  go_wp2_with fail
  go_loopw [4] (fun i wr => ∃ k : Nat, k ≤ 256 ∧ i = .int .i64 k ∧ Hid (Row g wr g (byteAt s) k) ∧ Hid (Below g w wr)) (fun i _ => 256 - (intOf i).toNat)
  case atStart => exact ⟨0, Nat.zero_le _, rfl, HR, HB⟩
  case round =>
    clear HR HB
    obtain ⟨k, hk, rfl, HR, HB⟩ := hrel
    by_cases h0 : s.size = 0
    · have HE : Hid (Row g wr g (byteAt s) 256) := by
        show Row g wr g (byteAt s) 256
        have : rowI (byteAt s) k = rowI (byteAt s) 256 := rowI_end' (byteAt s) k (fun i _ => byteAt_none s i h0)
        unfold Row; rw [← this]; exact HR.out
      have hconv := HE.out.text
      obtain ⟨T, hT⟩ : ∃ T, textOf (byteAt s) = T := ⟨_, rfl⟩
      rw [hT] at hconv
      have HT := Lib.hid hT; clear hT HR
      have h0' : ¬ (0 : Int) < (s.size : Int) := by omega
      have h0d : decide ((0 : Int) < (s.size : Int)) = false := decide_eq_false h0'
      clear h0
      by_cases hlt : k < 256
      · go_wp2
        go_ret
        exact ⟨by rw [HT.out]; rfl, by rw [HG.out]; exact HB.out⟩
      · go_wp2
        go_ret
        exact ⟨by rw [HT.out]; rfl, by rw [HG.out]; exact HB.out⟩
    · have hpos : (0 : Int) < (s.size : Int) := by omega
      by_cases hlt : k < 256
      · have hc := HR.out.cell k hlt
        have hf := HR.out.free k
        rw [if_neg (Nat.lt_irrefl _)] at hc
        have hks : (min (k : Int) ((s.size : Int) - 1)).toNat < s.size := by omega
        have HE : Hid (Row g (wr.setCell ⟨g, k, none⟩ (.int .u8 (s[(min (k : Int) ((s.size : Int) - 1)).toNat].toNat : Int))) g (byteAt s) (k + 1)) := by
          have := HR.out.store hlt
          rw [byteAt_get s k (min (k : Int) ((s.size : Int) - 1)).toNat hks (by omega)] at this
          exact this
        have m0 : (0 : Int) ≤ min (k : Int) ((s.size : Int) - 1) := by omega
        have m1 : min (k : Int) ((s.size : Int) - 1) < (s.size : Int) := by omega
        go_wp2
        go_roundw
        case rel => exact ⟨k + 1, by omega, by go_num, HE, HB.out.setCell (Nat.le_refl _) _⟩
        case measure => simp [intOf]; omega
      · have hk' : k = 256 := by omega
        subst hk'
        have hconv := HR.out.text
        obtain ⟨T, hT⟩ : ∃ T, textOf (byteAt s) = T := ⟨_, rfl⟩
        rw [hT] at hconv
        have HT := Lib.hid hT; clear hT
        go_wp2
        go_ret
        exact ⟨by rw [HT.out]; rfl, by rw [HG.out]; exact HB.out⟩

set_option maxRecDepth 100000 in
set_option maxHeartbeats 1000000 in
theorem same_dec (L M : List ByteArray) (u v : Value) (w : World) (hl : L.length ≤ 5000) (hlm : M.length = L.length) (h : SlS w u L) (h2 : SlS w v M) :
    Calls Try.prog 18 #[u, v] w fun e w' => e = .returned (.bool (decide (L = M))) ∧ Below w.heap.size w w' := by
  obtain ⟨ao, c, rfl, _, hc⟩ := h
  obtain ⟨ao2, c2, rfl, _, hc2⟩ := h2
  have HC : Hid (∀ k (hk : k < L.length) (hk2 : k < M.length), ∃ b off b2 off2, ao = some ⟨b, off, none⟩ ∧ ao2 = some ⟨b2, off2, none⟩ ∧ w.cell? ⟨b, off + k, none⟩ = some (.string L[k]) ∧ w.cell? ⟨b2, off2 + k, none⟩ = some (.string M[k])) := by
    intro k hk hk2
    rcases hc with rfl | ⟨b, off, e, _, hw⟩
    · simp at hk
    · rcases hc2 with rfl | ⟨b2, off2, e2, _, hw2⟩
      · simp at hk2
      · exact ⟨b, off, b2, off2, e, e2, hw k hk, hw2 k hk2⟩
  clear hc hc2
  rw [hlm]
  obtain ⟨n, hn⟩ : ∃ n, L.length = n := ⟨_, rfl⟩
  rw [hn] at hl hlm ⊢
  have HN := Lib.hid hn; clear hn
  have HM := Lib.hid hlm; clear hlm
  go_enter Try.func18, Try.ntmps18
  go_wp2
  go_loopw [5] (fun i wr => ∃ k : Nat, k ≤ n ∧ i = .int .i64 k ∧ Hid (L.take k = M.take k) ∧ ∃ m, wr = w.drewN m) (fun i _ => n - (intOf i).toNat)
  case atStart => exact ⟨0, Nat.zero_le _, rfl, rfl, 0, rfl⟩
  case round =>
    obtain ⟨k, hk, rfl, HT, m, rfl⟩ := hrel
    by_cases hlt : k < n
    · have hkL : k < L.length := by rw [HN.out]; exact hlt
      have hkM : k < M.length := by rw [HM.out]; exact hlt
      obtain ⟨b, off, b2, off2, rfl, rfl, c1, c2⟩ := HC.out k hkL hkM
      have i1 : (k : Int) < (n : Int) := by omega
      by_cases he : L[k] = M[k]
      · have HT2 : Hid (L.take (k + 1) = M.take (k + 1)) := by show _ = _; rw [take_snocL L k hkL, take_snocL M k hkM, HT.out, he]
        rw [he] at c1
        generalize M[k] = q at *
        clear he
        have hne : (!(q.toList == q.toList)) = false := by simp
        go_wp2
        go_quiet (fail)
        go_wp2
        go_roundw
        case rel => exact ⟨k + 1, by omega, by go_num, HT2, _, rfl⟩
        case measure => simp [intOf]; omega
      · have HD : Hid (decide (L = M) = false) := by
          show _ = _
          apply decide_eq_false
          intro e
          subst e
          exact he rfl
        have hne : (!(L[k].toList == M[k].toList)) = true := by rw [Fr.str_diff he]; rfl
        generalize L[k] = q at *
        generalize M[k] = r at *
        clear he
        go_wp2
        go_quiet (fail)
        go_wp2
        go_ret
        exact ⟨by rw [HD.out]; rfl, Fr.below_drewN (Fr.below_drewN (Below.refl _ _) _) _⟩
    · have HD : Hid (decide (L = M) = true) := by
        show _ = _
        apply decide_eq_true
        have h1 := HT.out
        rw [List.take_of_length_le (by rw [HN.out]; omega), List.take_of_length_le (by rw [HM.out]; omega)] at h1
        exact h1
      go_wp2
      go_ret
      exact ⟨by rw [HD.out]; rfl, Fr.below_drewN (Below.refl _ _) _⟩

theorem results_fine (tmps : Array Value) (g : Nat) (Y : World) (x : Int) (t : ByteArray) (h4 : tmps.getD 4 undef = .pointer (some ⟨g, 0, none⟩))
    (hY : Y.heap[g]? = some (.cells #[.int .i64 x, .string t] 71 (0, 0))) :
    (results Try.f36 tmps).run Try.prog Y = .ok (.agg #[.int .i64 x, .string t]) Y := by
  have y0 : Y.cell? ⟨g, 0, none⟩ = some (.int .i64 x) := by rw [cell_at hY]; rfl
  have y1 : Y.cell? ⟨g, 1, none⟩ = some (.string t) := by rw [cell_at hY]; rfl
  rw [Array.getD_eq_getD_getElem?] at h4
  simp [results, Try.results36, go_sem, h4, y0, y1]

set_option maxRecDepth 100000 in
set_option maxHeartbeats 1000000 in
theorem fine_any (n : Int) (s : ByteArray) (w : World) (hn : -9223372036854775808 ≤ n ∧ n ≤ 9223372036854775807) (hs : s.size ≤ 600) :
    Calls Try.prog 36 #[.int .i64 n, .string s] w fun e w' => e = .returned (.agg #[.int .i64 (52 + pickI n 18), .string (textOf (byteAt s))]) ∧ Below w.heap.size w w' := by
  have CP := Lib.hid (fun W => pick_any n 18 W hn (by omega))
  have CD := Lib.hid (fun W => data_any s W hs)
  have hp := pickI_lt n 18 (by omega)
  generalize pickI n 18 = q at *
  generalize textOf (byteAt s) = T at *
  obtain ⟨A0, hA0⟩ : ∃ A0, w.alloc (.cells #[.int .i64 0, .string ⟨#[]⟩] 71) = A0 := ⟨_, rfl⟩
  have hr0 : A0.heap[w.heap.size]? = some (.cells #[.int .i64 0, .string ⟨#[]⟩] 71 (0, 0)) := by rw [← hA0, heap_alloc_new]
  have HB0 : Hid (Below w.heap.size w A0) := by rw [← hA0]; exact (Below.refl _ _).alloc (Nat.le_refl _) _
  have hz0 : w.heap.size < A0.heap.size := (Array.getElem?_eq_some_iff.1 hr0).1
  have HR0 := Lib.hid hr0; clear hr0
  have HA0 := Lib.hid hA0; clear hA0
  go_enter Try.func36, Try.ntmps36
  go_wp2_with fail
  rw [HA0.out]
  refine (CP.out _).mono ?_
  rintro e w1 ⟨rfl, rfl⟩
  go_wp2_with fail
  refine (CD.out _).mono ?_
  rintro e w2 ⟨rfl, hb⟩
  have HB := Lib.hid hb; clear hb
  have hr2 := (HB.out.block _ hz0).trans HR0.out
  have r0 : w2.cell? ⟨w.heap.size, 0, none⟩ = some (.int .i64 0) := by rw [cell_at hr2]; rfl
  have r1 : w2.cell? ⟨w.heap.size, 1, none⟩ = some (.string ⟨#[]⟩) := by rw [cell_at hr2]; rfl
  have q0 : w2.frozen? ⟨w.heap.size, 0, none⟩ = false := free_at hr2 0
  have q1 : w2.frozen? ⟨w.heap.size, 1, none⟩ = false := free_at hr2 1
  have HR2 := Lib.hid hr2; clear hr2
  have fin : Hid (∀ tmps : Array Value, tmps.getD 4 undef = .pointer (some ⟨w.heap.size, 0, none⟩) → bodyPost Try.prog Try.f36 (fun e w' => e = .returned (.agg #[.int .i64 (52 + q), .string T]) ∧ Below w.heap.size w w') .ret ⟨tmps, []⟩ ((w2.setCell ⟨w.heap.size, 0, none⟩ (.int .i64 (52 + q))).setCell ⟨w.heap.size, 1, none⟩ (.string T))) := by
    intro tmps ht
    have h4 := heap_setCell_at (i := 1) (heap_setCell_at (i := 0) HR2.out (.int .i64 (52 + q))) (.string T)
    exact bodyPost_ret (results_fine tmps w.heap.size _ _ _ ht h4) rfl ⟨rfl, ((HB0.out.trans (HB.out.mono (Nat.le_of_lt hz0))).setCell (Nat.le_refl _) _).setCell (Nat.le_refl _) _⟩
  go_wp2
  exact fin.out _ rfl
end Go.Proofs.Ytodfcbpimglhdaa
/- What begin answers: a device with a journal; the world of the statements. -/
namespace Go.Proofs.Ytodfcbpimglhdaa
open Go.RowKit
open Fr (SlW)

/-- The device and the journal that begin makes. -/
def Db (n : Nat) : DevS := ((DevS.made n).fmt 50).2.opn.2.1
def Jb : JS := J0.next'
theorem begin_sync (n : Nat) (h1 : 53 ≤ n) (h2 : n ≤ 4096) : ((DevS.made n).fmt 50).2.opn = (0, Db n, some Jb) ∧ Sync 2 n Jb (Db n) (fun _ => noughts) [] ∧ (Db n).pend = [] ∧ (Db n).fused = false := by
  obtain ⟨a1, a2, a3, a4, a5, a6⟩ := fmt_rec n h1 h2
  obtain ⟨b1, b2, b3, b4⟩ := open_sure a6 (by omega) a5 a3 a2 a4
  refine ⟨Prod.ext b1 (Prod.ext rfl b2), b3, b4, (nf_opn a4).1⟩

section
variable {w0 w w' : World} {wb a p : Nat} {J J' : JS} {D D' : DevS}
/-- The statements' world: block wb holds the device p and the journal a; what was there in w0 is as it was. -/
structure Wd (w0 w : World) (wb a p : Nat) (S : Nat → Prop) (J : JS) (D : DevS) : Prop where
  own : ∀ k, S k → w0.heap.size ≤ k
  dev : Stands S w p D
  jr : Jr 85 w a p J
  wh : w.heap[wb]? = some (.cells #[.pointer (some ⟨p, 0, none⟩), .pointer (some ⟨a, 0, none⟩)] 65 (0, 0))
  na : ¬ S a
  nw : ¬ S wb
  aw : a ≠ wb
  la : w0.heap.size ≤ a
  lw : w0.heap.size ≤ wb
  bel : Below w0.heap.size w0 w
theorem Wd.below {S : Nat → Prop} (h : Wd w0 w wb a p S J D) (hb : Below w.heap.size w w') : Wd w0 w' wb a p S J D :=
  ⟨h.own, h.dev.below hb, h.jr.below hb, by rw [hb.block wb (Array.getElem?_eq_some_iff.1 h.wh).1]; exact h.wh, h.na, h.nw, h.aw, h.la, h.lw, h.bel.trans (hb.mono h.bel.size)⟩
theorem Wd.lt {S : Nat → Prop} (h : Wd w0 w wb a p S J D) : wb < w.heap.size := (Array.getElem?_eq_some_iff.1 h.wh).1
theorem Wd.c0 {S : Nat → Prop} (h : Wd w0 w wb a p S J D) : w.cell? ⟨wb, 0, none⟩ = some (.pointer (some ⟨p, 0, none⟩)) := by rw [cell_at h.wh]; rfl
theorem Wd.c1 {S : Nat → Prop} (h : Wd w0 w wb a p S J D) : w.cell? ⟨wb, 1, none⟩ = some (.pointer (some ⟨a, 0, none⟩)) := by rw [cell_at h.wh]; rfl
/-- Behind a call on the journal. -/
theorem Wd.jleaves {S : Nat → Prop} (h : Wd w0 w wb a p S J D) (hl : JLeaves 85 S w w' a p D' J') : ∃ S', Wd w0 w' wb a p S' J' D' := by
  obtain ⟨S', hS', hs, hj, ho⟩ := hl
  have hla := h.jr.lt
  have hlw := h.lt
  have hsz := h.bel.size
  refine ⟨S', fun k hk => ?_, hs, hj, ?_, fun hk => ?_, fun hk => ?_, h.aw, h.la, h.lw, ?_⟩
  · rcases hS' k hk with h1 | h1
    · exact h.own k h1
    · omega
  · rw [ho.block wb hlw (fun hk => by rcases hk with hk | hk; exact h.nw hk; exact h.aw hk.symm)]; exact h.wh
  · rcases hS' a hk with h1 | h1
    · exact h.na h1
    · omega
  · rcases hS' wb hk with h1 | h1
    · exact h.nw h1
    · omega
  · exact h.bel.trans (ho.below hsz (fun k _ hk => by rcases hk with hk | hk; exact h.own k hk; rw [hk]; exact h.la))
/-- Behind a call on the device. -/
theorem Wd.leaves {S : Nat → Prop} (h : Wd w0 w wb a p S J D) (hl : Leaves S w w' p D') : ∃ S', Wd w0 w' wb a p S' J D' := h.jleaves (JLeaves.of hl h.jr h.na)

/-- New, Format and Open, one behind the other, with devices that bear no numbers. -/
theorem begin_pack (n : Nat) (h1 : 53 ≤ n) (h2 : n ≤ 4096) : ∃ Z DF : DevS, Z.pend.length ≤ 600000 ∧
    (∀ w, Calls Try.prog 11 #[.int .i64 (n : Int)] w fun e w' => ∃ p, e = .returned (.tuple #[.pointer (some ⟨p, 0, none⟩), .int .i64 0]) ∧ Fresh w w' p Z) ∧
    (∀ (S : Nat → Prop) W p, Stands S W p Z → Calls Try.prog 23 #[.pointer (some ⟨p, 0, none⟩), .int .i64 50] W fun e w' => e = .returned (.int .i64 0) ∧ Leaves S W w' p DF) ∧
    (∀ (S : Nat → Prop) W p, Stands S W p DF → Calls Try.prog 16 #[.pointer (some ⟨p, 0, none⟩)] W fun e w' => ∃ S' a, (∀ k, S' k → S k ∨ W.heap.size ≤ k) ∧ Stands S' w' p (Db n) ∧ Only S W w' ∧ e = .returned (.tuple #[.pointer (some ⟨a, 0, none⟩), .int .i64 0]) ∧ W.heap.size ≤ a ∧ ¬ S' a ∧ Jr 85 w' a p Jb) ∧
    (∀ (S : Nat → Prop) W p, Stands S W p Z → Calls Try.prog 16 #[.pointer (some ⟨p, 0, none⟩)] W fun e w' => e = .returned (.tuple #[.pointer none, .int .i64 10]) ∧ Only S W w') ∧
    (∀ (S : Nat → Prop) W p (l : Int), (n : Int) - 3 < l → Stands S W p Z → Calls Try.prog 23 #[.pointer (some ⟨p, 0, none⟩), .int .i64 l] W fun e w' => e = .returned (.int .i64 2) ∧ Leaves S W w' p Z) := by
  obtain ⟨f1, f2, f3, f4, f5, f6⟩ := fmt_rec n h1 h2
  obtain ⟨s1, _, _, _⟩ := begin_sync n h1 h2
  have hp0 : (DevS.made n).pend = [] := rfl
  have hde : (DevS.made n).dead = false := rfl
  have hln : (DevS.made n).disk.length = n := by simp [DevS.made]
  have hfind : (DevS.made n).find = none := by
    have hz : ∀ i, (DevS.made n).slotAt i = none := by
      intro i
      unfold DevS.slotAt
      split
      · rename_i hi
        have hr : (DevS.made n).rdB i = noughts := by
          rw [rdB_none i (by rw [hp0]; intro x hx; cases hx)]
          unfold gd DevS.made
          rw [hln] at hi
          simp [List.getD, hi]
        rw [hr]
        cases hx : rdSlot noughts (DevS.made n).disk.length with
        | none => rfl
        | some x =>
          have := rdSlot_bytes hx
          have h0 := congrArg (fun b : ByteArray => b.data.toList.getD 0 0) this
          simp only [noughts_at] at h0
          have h67 : (slotB x.1 x.2.1 x.2.2.1 x.2.2.2).data.toList.getD 0 0 = 67 := rfl
          rw [h67] at h0
          cases h0
      · rfl
    unfold DevS.find
    rw [hz 0, hz 1]
  have hopn : (DevS.made n).opn = (10, DevS.made n, none) := by
    unfold DevS.opn; rw [hde, hfind]; rfl
  refine ⟨DevS.made n, ((DevS.made n).fmt 50).2, by rw [hp0]; simp, fun w => new_yes n w (by omega) h2, fun S W p h => ?_, fun S W p h => ?_, fun S W p h => ?_, fun S W p l hl h => ?_⟩
  · have := format_any (w := W) 50 h (by rw [hp0]; simp)
    rw [f1] at this
    exact this
  · refine (open_any (w := W) h (by rw [f2]; simp)).mono fun e w' hO => ?_
    unfold Opened at hO
    rw [s1] at hO
    obtain ⟨S', h1, h2, h3, a, h4, h5, h6, h7⟩ := hO
    exact ⟨S', a, h1, h2, h3, h4, h5, h6, h7⟩
  · refine (open_any (w := W) h (by rw [hp0]; simp)).mono fun e w' hO => ?_
    unfold Opened at hO
    rw [hopn] at hO
    obtain ⟨S', h1, h2, h3, h4⟩ := hO
    exact ⟨h4, h3⟩
  · have e : (DevS.made n).fmt l = (2, DevS.made n) := by unfold DevS.fmt; rw [hln, if_pos (.inr hl)]
    have := format_any (w := W) l h (by rw [hp0]; simp)
    rw [e] at this
    exact this

set_option maxRecDepth 100000 in
set_option maxHeartbeats 1000000 in
theorem begin_any (w : World) : Calls Try.prog 26 #[] w fun e w' => ∃ wb a p S, e = .returned (.tuple #[.pointer (some ⟨wb, 0, none⟩), .bool true]) ∧ Wd w w' wb a p S Jb (Db 70) := by
  obtain ⟨Z, DF, _, cn, cf, co, _, _⟩ := begin_pack 70 (by omega) (by omega)
  have CN := Lib.hid (cn w); have CF := Lib.hid cf; have CO := Lib.hid co
  clear cn cf co
  generalize Db 70 = DB at *
  generalize Jb = JB at *
  go_enter Try.func26, Try.ntmps26
  go_wp2_with fail
  refine CN.out.mono ?_
  rintro e w1 ⟨p, rfl, hf⟩
  obtain ⟨S1, hS1, hs1, hb1⟩ := hf
  have CF1 := Lib.hid (CF.out S1 w1 p hs1)
  have HS1 := Lib.hid hS1; have HB1 := Lib.hid hb1; have HSt1 := Lib.hid hs1
  clear hS1 hb1 hs1 CF CN
  go_wp2_with fail
  refine CF1.out.mono ?_
  rintro e w2 ⟨rfl, hv2⟩
  obtain ⟨S2, hS2, hs2, ho2⟩ := hv2
  have CO2 := Lib.hid (CO.out S2 w2 p hs2)
  have HS2 : Hid (∀ k, S2 k → w.heap.size ≤ k) := fun k hk => by rcases hS2 k hk with h | h; exact HS1.out k h; have := HB1.out.size; omega
  have HB2 : Hid (Below w.heap.size w w2) := HB1.out.trans (ho2.below HB1.out.size (fun k _ hk => HS1.out k hk))
  clear hS2 hs2 ho2 CO CF1 HS1 HSt1 HB1
  go_wp2_with fail
  refine CO2.out.mono ?_
  rintro e w3 ⟨S3, a, hS3, hs3, ho3, rfl, ha3, hna3, hj3⟩
  have hz2 := HB2.out.size
  have HS3 : Hid (∀ k, S3 k → w.heap.size ≤ k) := fun k hk => by rcases hS3 k hk with h | h; exact HS2.out k h; omega
  have HB3 : Hid (Below w.heap.size w w3) := HB2.out.trans (ho3.below hz2 (fun k _ hk => HS2.out k hk))
  have HD3 := Lib.hid hs3; have HNA := Lib.hid hna3; have HJ3 := Lib.hid hj3
  clear hS3 hs3 ho3 hna3 hj3 CO2 HS2 HB2
  go_wp2
  go_ret2
  have hb4 : Below w3.heap.size w3 (w3.alloc (.cells #[.pointer (some ⟨p, 0, none⟩), .pointer (some ⟨a, 0, none⟩)] 65)) := (Below.refl _ _).alloc (Nat.le_refl _) _
  have hz3 := HB3.out.size
  have hla := HJ3.out.lt
  refine ⟨w3.heap.size, a, p, S3, rfl, ⟨HS3.out, HD3.out.below hb4, HJ3.out.below hb4, heap_alloc_new .., HNA.out, fun h => by have := HD3.out.lt _ h; omega, by omega, by omega, hz3, HB3.out.trans (hb4.mono hz3)⟩⟩
end
end Go.Proofs.Ytodfcbpimglhdaa
