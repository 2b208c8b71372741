/- What the statements' own helpers answer: full, block, pick, small, sameTexts, sameWrites; nothing that was there is changed. -/
import Derived.Test.YtkailodeojbnhaaFBase
import Derived.Deep.QuietTactic
import Derived.BigQuiet
namespace Go.Proofs.Ytkailodeojbnhaa
open Go.RowKit

/-- 256 numbers, of which the first k are f's, the others 0. -/
def rowI (f : Nat → Int) (k : Nat) : List Int := (List.range 256).map fun i => if i < k then f i else 0
theorem rowI_length (f : Nat → Int) (k : Nat) : (rowI f k).length = 256 := by simp [rowI]
theorem rowI_get (f : Nat → Int) (k i : Nat) (h : i < 256) : (rowI f k)[i]? = some (if i < k then f i else 0) := by simp [rowI, h]
theorem rowI_set (f : Nat → Int) (k : Nat) (h : k < 256) : (rowI f k).set k (f k) = rowI f (k + 1) := by
  apply List.ext_getElem?
  intro i
  by_cases hi : i < 256
  · rw [List.getElem?_set, rowI_get f (k + 1) i hi, rowI_length]
    by_cases e : k = i
    · subst e; simp [h]
    · simp only [e, if_false]
      rw [rowI_get f k i hi]
      by_cases h2 : i < k
      · rw [if_pos h2, if_pos (by omega)]
      · rw [if_neg h2, if_neg (by omega)]
  · rw [List.getElem?_eq_none (by simp [rowI_length]; omega), List.getElem?_eq_none (by simp [rowI_length]; omega)]
theorem rowI_stay (f : Nat → Int) (k : Nat) (h : f k = 0) : rowI f k = rowI f (k + 1) := by
  unfold rowI
  apply List.map_congr_left
  intro i _
  by_cases h2 : i < k
  · rw [if_pos h2, if_pos (by omega)]
  · by_cases e : i = k
    · subst e; simp [h]
    · rw [if_neg h2, if_neg (by omega)]
theorem zeros_any (f : Nat → Int) (n : Nat) : ((List.range n).map fun i => if i < 0 then f i else 0).map (Value.int .u8) = List.replicate n (Value.int .u8 0) := by
  induction n with
  | zero => rfl
  | succ n ih => rw [List.range_succ, List.map_append, List.map_append, ih, List.replicate_succ']; rfl
theorem rowI_zero (f : Nat → Int) : (rowI f 0).map (Value.int .u8) = List.replicate 256 (Value.int .u8 0) := zeros_any f 256
/-- The text of 256 bytes that f tells. -/
def textOf (f : Nat → Int) : ByteArray := strOfNums (rowI f 256)
theorem textOf_size (f : Nat → Int) : (textOf f).size = 256 := by unfold textOf; rw [strOfNums_size, rowI_length]
theorem textOf_eq (f : Nat → Int) : strOfNums (rowI f 256) = textOf f := rfl

/-- A row of 256 bytes at block g. -/
def Row (B : Nat) (w : World) (g : Nat) (f : Nat → Int) (k : Nat) : Prop := w.ownsRow B 5 1 (.slice (some ⟨g, 0, none⟩) 256 256) 256 ((rowI f k).map (Value.int .u8))
theorem Row.cell {B : Nat} {w : World} {g : Nat} {f : Nat → Int} {k : Nat} (h : Row B w g f k) (i : Nat) (hi : i < 256) : w.cell? ⟨g, i, none⟩ = some (.int .u8 (if i < k then f i else 0)) := by
  rw [World.ownsRow.cellAt h i (by omega), List.getElem?_map, rowI_get f k i hi]; rfl
theorem Row.free {B : Nat} {w : World} {g : Nat} {f : Nat → Int} {k : Nat} (h : Row B w g f k) (i : Nat) : w.frozen? ⟨g, i, none⟩ = false := World.ownsRow.frozenAt h i
theorem Row.store {B : Nat} {w : World} {g : Nat} {f : Nat → Int} {k : Nat} (h : Row B w g f k) (hk : k < 256) : Row B (w.setCell ⟨g, k, none⟩ (.int .u8 (f k))) g f (k + 1) := by
  have := (World.ownsRow.stored h k (.int .u8 (f k))).1
  unfold Row
  rw [← rowI_set f k hk, List.map_set]
  exact this
theorem Row.text {B : Nat} {w : World} {g : Nat} {f : Nat → Int} (h : Row B w g f 256) : (convert 34 9 (.slice (some ⟨g, 0, none⟩) 256 256)).run Try.prog w = .ok (.string (textOf f)) w := by
  refine run_convert_bytes_arg w 34 5 Try.underlying34 Try.underlying5 g 0 256 256 (rowI f 256) (rowI_length f 256) ?_ 9 Try.underlying9
  intro i hi
  rw [Nat.zero_add, h.cell i hi]
  simp [List.getD, rowI_get f 256 i hi]

set_option maxRecDepth 100000 in
set_option maxHeartbeats 1000000 in
theorem full_any (c : Int) (w : World) :
    Calls Try.prog 21 #[.int .u8 c] w fun e w' => e = .returned (.string (textOf fun _ => c)) ∧ Below w.heap.size w w' := by
  obtain ⟨i0, hi, hz0, hz1, hz2⟩ := info_parts Try.infoB
  go_enter Try.func21, Try.ntmps21
  go_wp2_with (at_make; refine wpList_make_full _ rfl _ _ 34 rfl w.heap.size 5 i0 (.int .u8 0) 1 Try.underlying34 hi hz0 hz1 _ _ _ _ 256 rfl rfl rfl rfl (by rw [hz2]; decide) (by unfold maxLen; omega) (Nat.le_refl _) ?_)
  intro w1 hown hgrow
  have HR : Hid (Row w.heap.size w1 w.heap.size (fun _ => c) 0) := by
    show w1.ownsRow _ _ _ _ _ _
    rw [rowI_zero]
    rw [toList_madeCells_one] at hown
    exact hown
  have HB : Hid (Below w.heap.size w w1) := (Below.refl _ _).grown hgrow (Nat.le_refl _) (fun k h => by cases h)
  clear hown hgrow
  generalize hg : w.heap.size = g at *
  have HG := Lib.hid hg; clear hg
  go_wp2_with fail
  go_loopw [4] (fun i wr => ∃ k : Nat, k ≤ 256 ∧ i = .int .i64 k ∧ Hid (Row g wr g (fun _ => c) k) ∧ Hid (Below g w wr)) (fun i _ => 256 - (intOf i).toNat)
  case atStart => exact ⟨0, Nat.zero_le _, rfl, HR, HB⟩
  case round =>
    clear HR HB
    obtain ⟨k, hk, rfl, HR, HB⟩ := hrel
    by_cases hlt : k < 256
    · have hc := HR.out.cell k hlt
      have hf := HR.out.free k
      simp only [Nat.lt_irrefl, if_false] at hc
      go_wp2
      go_roundw
      case rel => exact ⟨k + 1, by omega, by go_num, HR.out.store hlt, HB.out.setCell (Nat.le_refl _) _⟩
      case measure => simp [intOf]; omega
    · have hk' : k = 256 := by omega
      subst hk'
      have hconv := HR.out.text
      obtain ⟨T, hT⟩ : ∃ T, textOf (fun _ => c) = T := ⟨_, rfl⟩
      rw [hT] at hconv
      have HT := Lib.hid hT; clear hT
      go_wp2
      go_ret
      exact ⟨by rw [HT.out]; rfl, by rw [HG.out]; exact HB.out⟩

/-- Which of n things a raw number speaks of. -/
def pickI (c n : Int) : Int := (if c < 0 then -(c + 1) else c) % n
theorem pickI_lt (c n : Int) (hn : 0 < n) : 0 ≤ pickI c n ∧ pickI c n < n := ⟨Int.emod_nonneg _ (by omega), Int.emod_lt_of_pos _ hn⟩

set_option maxHeartbeats 400000 in
theorem pick_any (c n : Int) (w : World) (hc : -9223372036854775808 ≤ c ∧ c ≤ 9223372036854775807) (hn : 0 < n ∧ n ≤ 1000000) :
    Calls Try.prog 15 #[.int .i64 c, .int .i64 n] w fun e w' => e = .returned (.int .i64 (pickI c n)) ∧ w = w' := by
  have hne : (n == 0) = false := by simp; omega
  have hm1 : (n == -1) = false := by simp; omega
  by_cases h : c < 0
  · have HP : Hid (pickI c n = -((c + 1).tmod n)) := by
      show pickI c n = _; unfold pickI
      rw [if_pos h, ← Int.neg_tmod, Int.tmod_eq_emod_of_nonneg (by omega)]
    go_enter Try.func15, Try.ntmps15
    go_wp2
    go_ret
    exact ⟨by rw [HP.out]; rfl, rfl⟩
  · have HP : Hid (pickI c n = c % n) := by show pickI c n = _; unfold pickI; rw [if_neg h]
    have h0 : 0 ≤ c := by omega
    go_enter Try.func15, Try.ntmps15
    go_wp2
    go_ret
    exact ⟨by rw [HP.out]; rfl, rfl⟩


/-- The bytes of which block makes a block. -/
def headAt (s : ByteArray) (i : Nat) : Int := ((s.data.toList.getD i 0).toNat : Int)
theorem headAt_get (s : ByteArray) (i : Nat) (h : i < s.size) : headAt s i = (s[i].toNat : Int) := by
  unfold headAt
  have h' : i < s.data.toList.length := by simpa using h
  simp only [List.getD, List.getElem?_eq_getElem h', Option.getD_some]
  rfl
theorem headAt_none (s : ByteArray) (i : Nat) (h : s.size ≤ i) : headAt s i = 0 := by
  unfold headAt
  have e : s.data.toList[i]? = none := List.getElem?_eq_none (by rw [str_len]; exact h)
  simp only [List.getD, e]; rfl
theorem rowI_end (f : Nat → Int) (k : Nat) (h : ∀ i, k ≤ i → f i = 0) : rowI f k = rowI f 256 := by
  unfold rowI
  apply List.map_congr_left
  intro i hi
  have hi' : i < 256 := List.mem_range.1 hi
  by_cases h2 : i < k
  · rw [if_pos h2, if_pos (by omega)]
  · rw [if_neg h2, if_pos hi', h i (by omega)]
def blockB (s : ByteArray) : ByteArray := textOf (headAt s)
theorem blockB_size (s : ByteArray) : (blockB s).size = 256 := textOf_size _

set_option maxRecDepth 100000 in
set_option maxHeartbeats 1000000 in
theorem block_any (s : ByteArray) (w : World) (hs : s.size ≤ maxLen) :
    Calls Try.prog 20 #[.string s] w fun e w' => e = .returned (.string (blockB s)) ∧ Below w.heap.size w w' := by
  obtain ⟨i0, hi, hz0, hz1, hz2⟩ := info_parts Try.infoB
  unfold maxLen at hs
  go_enter Try.func20, Try.ntmps20
  go_wp2_with (at_make; refine wpList_make_full _ rfl _ _ 34 rfl w.heap.size 5 i0 (.int .u8 0) 1 Try.underlying34 hi hz0 hz1 _ _ _ _ 256 rfl rfl rfl rfl (by rw [hz2]; decide) (by unfold maxLen; omega) (Nat.le_refl _) ?_)
  intro w1 hown hgrow
  have HR : Hid (Row w.heap.size w1 w.heap.size (headAt s) 0) := by
    show w1.ownsRow _ _ _ _ _ _
    rw [rowI_zero]
    rw [toList_madeCells_one] at hown
    exact hown
  have HB : Hid (Below w.heap.size w w1) := (Below.refl _ _).grown hgrow (Nat.le_refl _) (fun k h => by cases h)
  clear hown hgrow
  generalize hg : w.heap.size = g at *
  have HG := Lib.hid hg; clear hg
  go_wp2_with fail
  go_loopw [4] (fun i wr => ∃ k : Nat, k ≤ 256 ∧ k ≤ s.size ∧ i = .int .i64 k ∧ Hid (Row g wr g (headAt s) k) ∧ Hid (Below g w wr)) (fun i _ => 256 - (intOf i).toNat)
  case atStart => exact ⟨0, Nat.zero_le _, Nat.zero_le _, rfl, HR, HB⟩
  case round =>
    clear HR HB
    obtain ⟨k, hk, hks, rfl, HR, HB⟩ := hrel
    by_cases hlt : k < s.size
    · by_cases hl2 : k < 256
      · have hc := HR.out.cell k hl2
        have hf := HR.out.free k
        simp only [Nat.lt_irrefl, if_false] at hc
        have HE : Hid (Row g (wr.setCell ⟨g, k, none⟩ (.int .u8 (s[k].toNat : Int))) g (headAt s) (k + 1)) := by
          have := HR.out.store hl2
          rw [headAt_get s k hlt] at this
          exact this
        have i1 : (k : Int) < (s.size : Int) := by omega
        have i2 : (k : Int) < 256 := by omega
        go_wp2
        go_roundw
        case rel => exact ⟨k + 1, by omega, by omega, by go_num, HE, HB.out.setCell (Nat.le_refl _) _⟩
        case measure => simp [intOf]; omega
      · have hk' : k = 256 := by omega
        subst hk'
        have hconv := HR.out.text
        obtain ⟨T, hT⟩ : ∃ T, textOf (headAt s) = T := ⟨_, rfl⟩
        rw [hT] at hconv
        have HT : Hid (blockB s = T) := hT
        clear hT
        go_wp2
        go_ret
        exact ⟨by rw [HT.out]; rfl, by rw [HG.out]; exact HB.out⟩
    · have hr := HR.out
      unfold Row at hr
      rw [rowI_end (headAt s) k (fun i hi => headAt_none s i (by omega))] at hr
      have hconv := Row.text hr
      obtain ⟨T, hT⟩ : ∃ T, textOf (headAt s) = T := ⟨_, rfl⟩
      rw [hT] at hconv
      have HT : Hid (blockB s = T) := hT
      clear hT hr
      go_wp2
      go_ret
      exact ⟨by rw [HT.out]; rfl, by rw [HG.out]; exact HB.out⟩

/-- Not too many writes, none too long. -/
def smallW (L : List (Int × ByteArray)) : Bool := decide (L.length ≤ 60 ∧ ∀ x ∈ L, x.2.size ≤ 600)
theorem smallW_iff (L : List (Int × ByteArray)) : smallW L = true ↔ L.length ≤ 60 ∧ ∀ x ∈ L, x.2.size ≤ 600 := by unfold smallW; exact decide_eq_true_iff

set_option maxRecDepth 100000 in
set_option maxHeartbeats 1000000 in
theorem small_any (L : List (Int × ByteArray)) (v : Value) (w : World) (hl : L.length ≤ maxLen) (hs : ∀ x ∈ L, x.2.size ≤ maxLen) (h : SlW w v L) :
    Calls Try.prog 10 #[v] w fun e w' => e = .returned (.bool (smallW L)) ∧ w = w' := by
  obtain ⟨ao, c, rfl, hcap, hc⟩ := h
  unfold maxLen at hl
  have HC : Hid (∀ k (hk : k < L.length), ∃ b off, ao = some ⟨b, off, none⟩ ∧ w.cell? ⟨b, off + k * 2 + 1, none⟩ = some (.string L[k].2)) := by
    intro k hk
    rcases hc with rfl | ⟨b, off, e, _, hw⟩
    · simp at hk
    · exact ⟨b, off, e, (hw k hk).2⟩
  clear hc hcap
  have HS := Lib.hid hs; clear hs
  obtain ⟨n, hn⟩ : ∃ n, L.length = n := ⟨_, rfl⟩
  rw [hn] at hl ⊢
  have HN := Lib.hid hn; clear hn
  by_cases h60 : n ≤ 60
  · have i1 : ¬ (60 : Int) < (n : Int) := by omega
    go_enter Try.func10, Try.ntmps10
    go_wp2
    go_loop [3] (fun i => ∃ k : Nat, k ≤ n ∧ i = .int .i64 k ∧ Hid (∀ x ∈ L.take k, x.2.size ≤ 600)) (fun i => n - (intOf i).toNat)
    case atStart => exact ⟨0, Nat.zero_le _, rfl, fun x hx => by simp at hx⟩
    case round =>
      obtain ⟨k, hk, rfl, HK⟩ := hrel
      by_cases hlt : k < n
      · have hkL : k < L.length := by rw [HN.out]; exact hlt
        obtain ⟨b, off, rfl, c1⟩ := HC.out k hkL
        have hsz := HS.out L[k] (List.getElem_mem hkL)
        unfold maxLen at hsz
        by_cases hx : L[k].2.size ≤ 600
        · have HK2 : Hid (∀ x ∈ L.take (k + 1), x.2.size ≤ 600) := by
            intro x hm
            rw [List.take_succ_eq_append_getElem hkL] at hm
            rcases List.mem_append.1 hm with hm | hm
            · exact HK.out x hm
            · simp at hm; rw [hm]; exact hx
          generalize L[k] = p at *
          have i2 : ¬ (600 : Int) < (p.2.size : Int) := by omega
          go_wp2
          go_round
          case rel => exact ⟨k + 1, by omega, by go_num, HK2⟩
          case measure => simp [intOf]; omega
        · have HE : Hid (smallW L = false) := by
            show _ = _
            rw [Bool.eq_false_iff]
            intro hh
            exact hx (((smallW_iff L).1 hh).2 _ (List.getElem_mem hkL))
          generalize L[k] = p at *
          have i2 : (600 : Int) < (p.2.size : Int) := by omega
          go_wp2
          go_ret
          exact ⟨by rw [HE.out]; rfl, rfl⟩
      · have HE : Hid (smallW L = true) := (smallW_iff L).2 ⟨by rw [HN.out]; exact h60, fun x hx => HK.out x (by rw [List.take_of_length_le (by rw [HN.out]; omega)]; exact hx)⟩
        go_wp2
        go_ret
        exact ⟨by rw [HE.out]; rfl, rfl⟩
  · have HE : Hid (smallW L = false) := by
      show _ = _
      rw [Bool.eq_false_iff]
      intro hh
      have := ((smallW_iff L).1 hh).1
      rw [HN.out] at this
      omega
    have i1 : (60 : Int) < (n : Int) := by omega
    go_enter Try.func10, Try.ntmps10
    go_wp2
    go_ret
    exact ⟨by rw [HE.out]; rfl, rfl⟩

set_option maxRecDepth 100000 in
set_option maxHeartbeats 1000000 in
theorem sameT_any (L : List ByteArray) (u v : Value) (w : World) (hl : L.length ≤ maxLen) (h : SlS w u L) (h2 : SlS w v L) :
    Calls Try.prog 13 #[u, v] w fun e w' => e = .returned (.bool true) ∧ Below w.heap.size w w' := by
  obtain ⟨ao, c, rfl, _, hc⟩ := h
  obtain ⟨ao2, c2, rfl, _, hc2⟩ := h2
  unfold maxLen at hl
  have HC : Hid (∀ k (hk : k < L.length), ∃ b off b2 off2, ao = some ⟨b, off, none⟩ ∧ ao2 = some ⟨b2, off2, none⟩ ∧ w.cell? ⟨b, off + k, none⟩ = some (.string L[k]) ∧ w.cell? ⟨b2, off2 + k, none⟩ = some (.string L[k])) := by
    intro k hk
    rcases hc with rfl | ⟨b, off, e, _, hw⟩
    · simp at hk
    · rcases hc2 with rfl | ⟨b2, off2, e2, _, hw2⟩
      · simp at hk
      · exact ⟨b, off, b2, off2, e, e2, hw k hk, hw2 k hk⟩
  clear hc hc2
  obtain ⟨n, hn⟩ : ∃ n, L.length = n := ⟨_, rfl⟩
  rw [hn] at hl ⊢
  have HN := Lib.hid hn; clear hn
  go_enter Try.func13, Try.ntmps13
  go_wp2
  go_loopw [5] (fun i wr => ∃ k : Nat, k ≤ n ∧ i = .int .i64 k ∧ ∃ m, wr = w.drewN m) (fun i _ => n - (intOf i).toNat)
  case atStart => exact ⟨0, Nat.zero_le _, rfl, 0, rfl⟩
  case round =>
    obtain ⟨k, hk, rfl, m, rfl⟩ := hrel
    by_cases hlt : k < n
    · have hkL : k < L.length := by rw [HN.out]; exact hlt
      obtain ⟨b, off, b2, off2, rfl, rfl, c1, c2⟩ := HC.out k hkL
      generalize L[k] = p at *
      have i1 : (k : Int) < (n : Int) := by omega
      have hne : (!(p.toList == p.toList)) = false := by simp
      go_wp2
      go_quiet (fail)
      go_wp2
      go_roundw
      case rel => exact ⟨k + 1, by omega, by go_num, _, rfl⟩
      case measure => simp [intOf]; omega
    · go_wp2
      go_ret
      exact ⟨rfl, below_drewN (Below.refl _ _) _⟩

set_option maxRecDepth 100000 in
set_option maxHeartbeats 1000000 in
theorem sameW_any (L : List (Int × ByteArray)) (u v : Value) (w : World) (hl : L.length ≤ maxLen) (h : SlW w u L) (h2 : SlW w v L) :
    Calls Try.prog 19 #[u, v] w fun e w' => e = .returned (.bool true) ∧ Below w.heap.size w w' := by
  obtain ⟨ao, c, rfl, _, hc⟩ := h
  obtain ⟨ao2, c2, rfl, _, hc2⟩ := h2
  unfold maxLen at hl
  have HC : Hid (∀ k (hk : k < L.length), ∃ b off b2 off2, ao = some ⟨b, off, none⟩ ∧ ao2 = some ⟨b2, off2, none⟩ ∧ (w.cell? ⟨b, off + k * 2, none⟩ = some (.int .i64 L[k].1) ∧ w.cell? ⟨b, off + k * 2 + 1, none⟩ = some (.string L[k].2)) ∧ (w.cell? ⟨b2, off2 + k * 2, none⟩ = some (.int .i64 L[k].1) ∧ w.cell? ⟨b2, off2 + k * 2 + 1, none⟩ = some (.string L[k].2))) := by
    intro k hk
    rcases hc with rfl | ⟨b, off, e, _, hw⟩
    · simp at hk
    · rcases hc2 with rfl | ⟨b2, off2, e2, _, hw2⟩
      · simp at hk
      · exact ⟨b, off, b2, off2, e, e2, hw k hk, hw2 k hk⟩
  clear hc hc2
  obtain ⟨n, hn⟩ : ∃ n, L.length = n := ⟨_, rfl⟩
  rw [hn] at hl ⊢
  have HN := Lib.hid hn; clear hn
  go_enter Try.func19, Try.ntmps19
  go_wp2
  go_loopw [5] (fun i wr => ∃ k : Nat, k ≤ n ∧ i = .int .i64 k ∧ ∃ m, wr = w.drewN m) (fun i _ => n - (intOf i).toNat)
  case atStart => exact ⟨0, Nat.zero_le _, rfl, 0, rfl⟩
  case round =>
    obtain ⟨k, hk, rfl, m, rfl⟩ := hrel
    by_cases hlt : k < n
    · have hkL : k < L.length := by rw [HN.out]; exact hlt
      obtain ⟨b, off, b2, off2, rfl, rfl, ⟨c1, c1'⟩, ⟨c2, c2'⟩⟩ := HC.out k hkL
      generalize L[k] = p at *
      obtain ⟨pb, pd⟩ := p
      simp only at c1 c1' c2 c2'
      have i1 : (k : Int) < (n : Int) := by omega
      go_wp2
      go_quiet (fail)
      go_wp2
      go_roundw
      case rel => exact ⟨k + 1, by omega, by go_num, _, rfl⟩
      case measure => simp [intOf]; omega
    · go_wp2
      go_ret
      exact ⟨rfl, below_drewN (Below.refl _ _) _⟩
end Go.Proofs.Ytkailodeojbnhaa
