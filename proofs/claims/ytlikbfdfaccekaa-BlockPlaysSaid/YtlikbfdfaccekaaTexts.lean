/- What the statements' own helpers full and data answer: a text of 256 bytes (or the text itself); nothing that was there is changed. -/
import Derived.Test.YtlikbfdfaccekaaBase
import Derived.Lib.Hide
import Derived.Laws.BytesArg
namespace Go.Proofs.Ytlikbfdfaccekaa
open Go.RowKit

/-- 256 numbers, of which the first k are f's, the others 0. -/
def rowI (f : Nat → Int) (k : Nat) : List Int := (List.range 256).map fun i => if i < k then f i else 0
theorem rowI_length (f : Nat → Int) (k : Nat) : (rowI f k).length = 256 := by simp [rowI]
theorem rowI_get (f : Nat → Int) (k i : Nat) (h : i < 256) : (rowI f k)[i]? = some (if i < k then f i else 0) := by simp [rowI, h]
theorem rowI_set (f : Nat → Int) (k : Nat) (h : k < 256) : (rowI f k).set k (f k) = rowI f (k + 1) := by
  apply List.ext_getElem?
  intro i
  by_cases hi : i < 256
  · rw [List.getElem?_set, rowI_get f (k + 1) i hi, rowI_length]
    by_cases e : k = i
    · subst e; simp [h]
    · simp only [e, if_false]
      rw [rowI_get f k i hi]
      by_cases h2 : i < k
      · rw [if_pos h2, if_pos (by omega)]
      · rw [if_neg h2, if_neg (by omega)]
  · rw [List.getElem?_eq_none (by simp [rowI_length]; omega), List.getElem?_eq_none (by simp [rowI_length]; omega)]
theorem rowI_stay (f : Nat → Int) (k : Nat) (h : f k = 0) : rowI f k = rowI f (k + 1) := by
  unfold rowI
  apply List.map_congr_left
  intro i _
  by_cases h2 : i < k
  · rw [if_pos h2, if_pos (by omega)]
  · by_cases e : i = k
    · subst e; simp [h]
    · rw [if_neg h2, if_neg (by omega)]
theorem zeros_any (f : Nat → Int) (n : Nat) : ((List.range n).map fun i => if i < 0 then f i else 0).map (Value.int .u8) = List.replicate n (Value.int .u8 0) := by
  induction n with
  | zero => rfl
  | succ n ih => rw [List.range_succ, List.map_append, List.map_append, ih, List.replicate_succ']; rfl
theorem rowI_zero (f : Nat → Int) : (rowI f 0).map (Value.int .u8) = List.replicate 256 (Value.int .u8 0) := zeros_any f 256
/-- The text of 256 bytes that f tells. -/
def textOf (f : Nat → Int) : ByteArray := strOfNums (rowI f 256)
theorem textOf_size (f : Nat → Int) : (textOf f).size = 256 := by unfold textOf; rw [strOfNums_size, rowI_length]
theorem textOf_eq (f : Nat → Int) : strOfNums (rowI f 256) = textOf f := rfl

theorem _root_.Go.Proofs.Try.infoB : (Try.prog.info? 5).map (fun i => (i.zero, i.size, i.bytes)) = some (some (.int .u8 0), 1, 1) := by kernel_rfl

/-- A row of 256 bytes at block g. -/
def Row (B : Nat) (w : World) (g : Nat) (f : Nat → Int) (k : Nat) : Prop := w.ownsRow B 5 1 (.slice (some ⟨g, 0, none⟩) 256 256) 256 ((rowI f k).map (Value.int .u8))
theorem Row.cell {B : Nat} {w : World} {g : Nat} {f : Nat → Int} {k : Nat} (h : Row B w g f k) (i : Nat) (hi : i < 256) : w.cell? ⟨g, i, none⟩ = some (.int .u8 (if i < k then f i else 0)) := by
  rw [World.ownsRow.cellAt h i (by omega), List.getElem?_map, rowI_get f k i hi]; rfl
theorem Row.free {B : Nat} {w : World} {g : Nat} {f : Nat → Int} {k : Nat} (h : Row B w g f k) (i : Nat) : w.frozen? ⟨g, i, none⟩ = false := World.ownsRow.frozenAt h i
theorem Row.store {B : Nat} {w : World} {g : Nat} {f : Nat → Int} {k : Nat} (h : Row B w g f k) (hk : k < 256) : Row B (w.setCell ⟨g, k, none⟩ (.int .u8 (f k))) g f (k + 1) := by
  have := (World.ownsRow.stored h k (.int .u8 (f k))).1
  unfold Row
  rw [← rowI_set f k hk, List.map_set]
  exact this
theorem Row.text {B : Nat} {w : World} {g : Nat} {f : Nat → Int} (h : Row B w g f 256) : (convert 73 9 (.slice (some ⟨g, 0, none⟩) 256 256)).run Try.prog w = .ok (.string (textOf f)) w := by
  refine run_convert_bytes_arg w 73 5 Try.underlying73 Try.underlying5 g 0 256 256 (rowI f 256) (rowI_length f 256) ?_ 9 Try.underlying9
  intro i hi
  rw [Nat.zero_add, h.cell i hi]
  simp [List.getD, rowI_get f 256 i hi]

set_option maxRecDepth 100000 in
set_option maxHeartbeats 1000000 in
theorem full_any (c : Int) (w : World) :
    Calls Try.prog 28 #[.int .u8 c] w fun e w' => e = .returned (.string (textOf fun _ => c)) ∧ Below w.heap.size w w' := by
  obtain ⟨i0, hi, hz0, hz1, hz2⟩ := info_parts Try.infoB
  go_enter Try.func28, Try.ntmps28
  go_wp2_with (at_make; refine wpList_make_full _ rfl _ _ 73 rfl w.heap.size 5 i0 (.int .u8 0) 1 Try.underlying73 hi hz0 hz1 _ _ _ _ 256 rfl rfl rfl rfl (by rw [hz2]; decide) (by unfold maxLen; omega) (Nat.le_refl _) ?_)
  intro w1 hown hgrow
  have HR : Hid (Row w.heap.size w1 w.heap.size (fun _ => c) 0) := by
    show w1.ownsRow _ _ _ _ _ _
    rw [rowI_zero]
    rw [toList_madeCells_one] at hown
    exact hown
  have HB : Hid (Below w.heap.size w w1) := (Below.refl _ _).grown hgrow (Nat.le_refl _) (fun k h => by cases h)
  clear hown hgrow
  generalize hg : w.heap.size = g at *
  have HG := Lib.hid hg; clear hg
  go_wp2_with fail
  go_loopw [4] (fun i wr => ∃ k : Nat, k ≤ 256 ∧ i = .int .i64 k ∧ Hid (Row g wr g (fun _ => c) k) ∧ Hid (Below g w wr)) (fun i _ => 256 - (intOf i).toNat)
  case atStart => exact ⟨0, Nat.zero_le _, rfl, HR, HB⟩
  case round =>
    clear HR HB
    obtain ⟨k, hk, rfl, HR, HB⟩ := hrel
    by_cases hlt : k < 256
    · have hc := HR.out.cell k hlt
      have hf := HR.out.free k
      simp only [Nat.lt_irrefl, if_false] at hc
      go_wp2
      go_roundw
      case rel => exact ⟨k + 1, by omega, by go_num, HR.out.store hlt, HB.out.setCell (Nat.le_refl _) _⟩
      case measure => simp [intOf]; omega
    · have hk' : k = 256 := by omega
      subst hk'
      have hconv := HR.out.text
      obtain ⟨T, hT⟩ : ∃ T, textOf (fun _ => c) = T := ⟨_, rfl⟩
      rw [hT] at hconv
      have HT := Lib.hid hT; clear hT
      go_wp2
      go_ret
      exact ⟨by rw [HT.out]; rfl, by rw [HG.out]; exact HB.out⟩

/-- The bytes of which data makes a block. -/
def byteAt (s : ByteArray) (i : Nat) : Int := ((s.data.toList.getD (min i (s.size - 1)) 0).toNat : Int)
theorem byteAt_get (s : ByteArray) (i j : Nat) (h : j < s.size) (hj : j = min i (s.size - 1)) : byteAt s i = (s[j].toNat : Int) := by
  unfold byteAt
  rw [← hj]
  have h' : j < s.data.toList.length := by simpa using h
  simp only [List.getD, List.getElem?_eq_getElem h', Option.getD_some]
  rfl
theorem byteAt_none (s : ByteArray) (i : Nat) (h : s.size = 0) : byteAt s i = 0 := by
  unfold byteAt
  have h' : s.data.toList = [] := List.eq_nil_of_length_eq_zero (by simpa using h)
  rw [h']; rfl

set_option maxRecDepth 100000 in
set_option maxHeartbeats 1000000 in
theorem data_whole (op at_ n : Int) (ao : Option Addr) (l c : Nat) (s : ByteArray) (w : World) (h1 : (n.tmod 11 == 0) = true) (h2 : (n != 0) = true) :
    Calls Try.prog 29 #[.agg #[.int .i64 op, .int .i64 at_, .int .i64 n, .slice ao l c, .string s]] w fun e w' => e = .returned (.string s) ∧ Below w.heap.size w w' := by
  go_enter Try.func29, Try.ntmps29
  go_wp2
  go_ret
  exact ⟨rfl, (Below.refl _ _).alloc (Nat.le_refl _) _⟩

set_option maxRecDepth 100000 in
set_option maxHeartbeats 2000000 in
theorem data_fill (op at_ n : Int) (ao : Option Addr) (l c : Nat) (s : ByteArray) (w : World) (hs : s.size ≤ 600) (h : (n.tmod 11 == 0) = false ∨ n = 0) :
    Calls Try.prog 29 #[.agg #[.int .i64 op, .int .i64 at_, .int .i64 n, .slice ao l c, .string s]] w fun e w' => e = .returned (.string (textOf (byteAt s))) ∧ Below w.heap.size w w' := by
  obtain ⟨i0, hi, hz0, hz1, hz2⟩ := info_parts Try.infoB
  obtain ⟨w0, hw0⟩ : ∃ w0, w.alloc (.cells #[.int .i64 op, .int .i64 at_, .int .i64 n, .slice ao l c, .string s] 37) = w0 := ⟨_, rfl⟩
  have hb : w0.heap[w.heap.size]? = some (.cells #[.int .i64 op, .int .i64 at_, .int .i64 n, .slice ao l c, .string s] 37 (0, 0)) := by rw [← hw0, heap_alloc_new]
  have HB0 : Hid (Below w.heap.size w w0) := by rw [← hw0]; exact (Below.refl _ _).alloc (Nat.le_refl _) _
  have hz : w0.heap.size = w.heap.size + 1 := by rw [← hw0]; simp
  have hcell : ∀ W, Below (w.heap.size + 1) w0 W → W.cell? ⟨w.heap.size, 4, none⟩ = some (.string s) := fun W hW => by
    rw [hW.cell (p := ⟨w.heap.size, 4, none⟩) (by simp), cell_at hb]; rfl
  have HC := Lib.hid hcell; clear hcell hb
  have HW0 := Lib.hid hw0; clear hw0
  have HZ := Lib.hid hz; clear hz
  have HZ2 := Lib.hid hz2; clear hz2
  rcases h with h | rfl
  all_goals
    go_enter Try.func29, Try.ntmps29
    go_wp2_with (at_make; rw [HW0.out]; refine wpList_make_full _ rfl _ _ 73 rfl w0.heap.size 5 i0 (.int .u8 0) 1 Try.underlying73 hi hz0 hz1 _ _ _ _ 256 rfl rfl rfl rfl (by rw [HZ2.out]; decide) (by unfold maxLen; omega) (Nat.le_refl _) ?_)
    intro w1 hown hgrow
    have HR : Hid (Row w0.heap.size w1 w0.heap.size (byteAt s) 0) := by
      show w1.ownsRow _ _ _ _ _ _
      rw [rowI_zero]
      rw [toList_madeCells_one] at hown
      exact hown
    have HB : Hid (Below w0.heap.size w0 w1) := (Below.refl _ _).grown hgrow (Nat.le_refl _) (fun k h => by cases h)
    clear hown hgrow
    obtain ⟨g, hg⟩ : ∃ g, w0.heap.size = g := ⟨_, rfl⟩
    rw [hg] at HR HB ⊢
    have HG := Lib.hid hg; clear hg
    go_wp2_with fail
    go_loopw [4] (fun i wr => ∃ k : Nat, k ≤ 256 ∧ i = .int .i64 k ∧ Hid (Row g wr g (byteAt s) k) ∧ Hid (Below g w0 wr)) (fun i _ => 256 - (intOf i).toNat)
    case atStart => exact ⟨0, Nat.zero_le _, rfl, HR, HB⟩
    case round =>
      clear HR HB
      obtain ⟨k, hk, rfl, HR, HB⟩ := hrel
      have hst := HC.out wr (HB.out.mono (by rw [← HG.out, HZ.out]; exact Nat.le_refl _))
      have gne : w.heap.size < g := by rw [← HG.out, HZ.out]; exact Nat.lt_succ_self _
      by_cases hlt : k < 256
      · have hc := HR.out.cell k hlt
        have hf := HR.out.free k
        rw [if_neg (Nat.lt_irrefl _)] at hc
        by_cases h0 : s.size = 0
        · have HE : Hid (Row g wr g (byteAt s) (k + 1)) := by
            show Row g wr g (byteAt s) (k + 1)
            unfold Row; rw [← rowI_stay _ _ (byteAt_none s k h0)]; exact HR.out
          have h0' : s.size ≤ 0 := by omega
          clear h0
          go_wp2
          go_roundw
          case rel => exact ⟨k + 1, by omega, by go_num, HE, HB⟩
          case measure => simp [intOf]; omega
        · by_cases h1 : k ≤ s.size - 1
          · have hks : k < s.size := by omega
            have HE : Hid (Row g (wr.setCell ⟨g, k, none⟩ (.int .u8 (s[k].toNat : Int))) g (byteAt s) (k + 1)) := by
              have := HR.out.store hlt
              rw [byteAt_get s k k hks (by omega)] at this
              exact this
            go_wp2
            go_roundw
            case rel => exact ⟨k + 1, by omega, by go_num, HE, HB.out.setCell (Nat.le_refl _) _⟩
            case measure => simp [intOf]; omega
          · obtain ⟨m, hm⟩ : ∃ m, m = s.size - 1 := ⟨_, rfl⟩
            have hks : m < s.size := by omega
            have HE : Hid (Row g (wr.setCell ⟨g, k, none⟩ (.int .u8 (s[m].toNat : Int))) g (byteAt s) (k + 1)) := by
              have := HR.out.store hlt
              rw [byteAt_get s k m hks (by omega)] at this
              exact this
            have hix : (s.size : Int) - 1 = (m : Int) := by omega
            have hmk : (m : Int) < (k : Int) := by omega
            have hpos : 0 < s.size := by omega
            clear h1 h0 hm
            go_wp2
            go_goals
            go_roundw
            case rel => exact ⟨k + 1, by omega, by go_num, HE, HB.out.setCell (Nat.le_refl _) _⟩
            case measure => simp [intOf]; omega
      · have hk' : k = 256 := by omega
        subst hk'
        have hconv := HR.out.text
        obtain ⟨T, hT⟩ : ∃ T, textOf (byteAt s) = T := ⟨_, rfl⟩
        rw [hT] at hconv
        have HT := Lib.hid hT; clear hT
        go_wp2
        go_ret
        exact ⟨by rw [HT.out]; rfl, HB0.out.trans (HB.out.mono (Nat.le_of_lt gne))⟩

end Go.Proofs.Ytlikbfdfaccekaa
