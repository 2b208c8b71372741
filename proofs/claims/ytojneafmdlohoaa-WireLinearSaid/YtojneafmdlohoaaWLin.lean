/- WireLinear answers true for every three texts, and changes nothing that was there: the walk. -/
import Derived.Test.YtojneafmdlohoaaWShown
import Derived.Test.YtojneafmdlohoaaWLinR
import Derived.Lib.MinMax
import Derived.RegionTactic
import Derived.BigRegion
namespace Go.Proofs.Ytojneafmdlohoaa
open Go.RowKit

/-- Bytes of which the first k are f's, the others 0. -/
def mixL (f : Nat → UInt8) (n k : Nat) : List UInt8 := (List.range n).map fun i => if i < k then f i else 0
theorem mixL_length (f : Nat → UInt8) (n k : Nat) : (mixL f n k).length = n := by simp [mixL]
theorem mixL_get (f : Nat → UInt8) (n k i : Nat) (h : i < n) : (mixL f n k)[i]? = some (if i < k then f i else 0) := by simp [mixL, h]
theorem mixL_set (f : Nat → UInt8) (n k : Nat) (h : k < n) : (mixL f n k).set k (f k) = mixL f n (k + 1) := by
  apply List.ext_getElem?
  intro i
  by_cases hi : i < n
  · rw [List.getElem?_set, mixL_get f n (k + 1) i hi, mixL_length]
    by_cases e : k = i
    · subst e; simp [h]
    · simp only [e, if_false]
      rw [mixL_get f n k i hi]
      by_cases h2 : i < k
      · rw [if_pos h2, if_pos (by omega)]
      · rw [if_neg h2, if_neg (by omega)]
  · rw [List.getElem?_eq_none (by simp [mixL_length]; omega), List.getElem?_eq_none (by simp [mixL_length]; omega)]
theorem mixL_zero (f : Nat → UInt8) (n : Nat) : cellsB (mixL f n 0) = List.replicate n (Value.int .u8 0) := by
  unfold cellsB mixL
  simp
  induction n with
  | zero => rfl
  | succ n ih => rw [List.range_succ, List.map_append, ih, List.replicate_succ']; rfl

/-- The byte that is laid at i. -/
def mixAt (a b c : ByteArray) (i : Nat) : UInt8 := (a.data.toList.getD i 0) ^^^ (b.data.toList.getD i 0) ^^^ (c.data.toList.getD i 0)
theorem mixAt_get (a b c : ByteArray) (i : Nat) (ha : i < a.size) (hb : i < b.size) (hc : i < c.size) :
    bits .xor .u8 (bits .xor .u8 (a[i].toNat : Int) (b[i].toNat : Int)) (c[i].toNat : Int) = ((mixAt a b c i).toNat : Int) := by
  have e (s : ByteArray) (h : i < s.size) : s.data.toList.getD i 0 = s[i] := by
    have h' : i < s.data.toList.length := by simpa using h
    rw [List.getD_eq_getElem?_getD, List.getElem?_eq_getElem h']; rfl
  unfold mixAt
  rw [e a ha, e b hb, e c hc, u8_xor_nat _ _ (byte_lt _) (byte_lt _), u8_xor_nat _ _ (by have := byte_lt (a[i] ^^^ b[i]); rw [UInt8.toNat_xor] at this; exact this) (byte_lt _), UInt8.toNat_xor, UInt8.toNat_xor]
theorem mix_zip (a b c : ByteArray) (n : Nat) (ha : n ≤ a.size) (hb : n ≤ b.size) (hc : n ≤ c.size) :
    mixL (mixAt a b c) n n = List.zipWith (· ^^^ ·) (List.zipWith (· ^^^ ·) (a.data.toList.take n) (b.data.toList.take n)) (c.data.toList.take n) := by
  apply List.ext_getElem?
  intro i
  by_cases hi : i < n
  · rw [mixL_get _ _ _ _ hi, if_pos hi]
    have e (s : ByteArray) (h : n ≤ s.size) : (s.data.toList.take n)[i]? = some (s.data.toList.getD i 0) := by
      have h' : i < s.data.toList.length := by rw [str_len]; omega
      rw [List.getElem?_take, if_pos hi, List.getD_eq_getElem?_getD, List.getElem?_eq_getElem h']; rfl
    rw [List.getElem?_zipWith, List.getElem?_zipWith, e a ha, e b hb, e c hc]
    rfl
  · have hl (s : ByteArray) : (s.data.toList.take n).length ≤ n := List.length_take_le _ _
    rw [List.getElem?_eq_none (by rw [mixL_length]; omega), List.getElem?_eq_none]
    have := hl c
    rw [List.length_zipWith]; omega
theorem BRow.store {B : Nat} {w : World} {g cap : Nat} {f : Nat → UInt8} {n k : Nat} (h : BRow B w (.slice (some ⟨g, 0, none⟩) n cap) (mixL f n k)) (hk : k < n) : BRow B (w.setCell ⟨g, k, none⟩ (.int .u8 ((f k).toNat : Int))) (.slice (some ⟨g, 0, none⟩) n cap) (mixL f n (k + 1)) := by
  unfold BRow at h ⊢
  rw [mixL_length] at h ⊢
  have := (World.ownsRow.stored h k (.int .u8 ((f k).toNat : Int))).1
  rw [← mixL_set f n k hk]
  unfold cellsB at this ⊢
  rw [List.map_set]
  exact this
theorem BRow.cell {B : Nat} {w : World} {g n cap : Nat} {l : List UInt8} (h : BRow B w (.slice (some ⟨g, 0, none⟩) n cap) l) (hn : l.length = n) (k : Nat) (hk : k < n) : w.cell? ⟨g, k, none⟩ = some (.int .u8 ((l[k]'(by omega)).toNat : Int)) := by
  unfold BRow at h
  subst hn
  rw [World.ownsRow.cellAt h k (by omega)]
  simp [cellsB, hk]

set_option maxRecDepth 100000 in
set_option maxHeartbeats 2000000 in
theorem lin_some (a b c : ByteArray) (n : Nat) (w : World) (hn : min (a.size : Int) (min (b.size : Int) (c.size : Int)) = (n : Int)) (h3 : n ≤ 3000) (ha : n ≤ a.size) (hb : n ≤ b.size) (hc : n ≤ c.size) :
    Calls Try.prog 10 #[.string a, .string b, .string c] w fun e w' => e = .returned (.bool true) ∧ Below w.heap.size w w' := by
  obtain ⟨i0, hi, hz0, hz1, hz2⟩ := info_parts Try.infoB
  have HZ2 := Lib.hid hz2; clear hz2
  go_enter Try.func10, Try.ntmps10
  go_wp2_with fail
  refine (wshown_any _).mono ?_
  rintro e w1 ⟨rfl, hb1⟩
  have H1 := Lib.hid hb1; clear hb1
  go_wp2_with (at_make; refine wpList_make_full _ rfl _ _ 41 rfl w1.heap.size 5 i0 (.int .u8 0) 1 Try.underlying41 hi hz0 hz1 _ _ _ _ n rfl rfl rfl rfl ?b1 ?b2 (Nat.le_refl _) ?_)
  case b1 => rw [HZ2.out]; omega
  case b2 => unfold maxLen; omega
  intro w2 hown hgrow
  clear hn
  have HR : Hid (BRow w1.heap.size w2 (.slice (some ⟨w1.heap.size, 0, none⟩) n n) (mixL (mixAt a b c) n 0)) := by
    show w2.ownsRow _ _ _ _ _ _
    rw [mixL_zero, mixL_length]
    rw [toList_madeCells_one] at hown
    exact hown
  have HB : Hid (Below w1.heap.size w1 w2) := (Below.refl _ _).grown hgrow (Nat.le_refl _) (fun k h => by cases h)
  clear hown hgrow
  obtain ⟨g, hg⟩ : ∃ g, w1.heap.size = g := ⟨_, rfl⟩
  rw [hg] at HR HB ⊢
  have HG := Lib.hid hg; clear hg
  go_wp2_with fail
  go_loopw [10] (fun i wr => ∃ k : Nat, k ≤ n ∧ i = .int .i64 k ∧ Hid (BRow g wr (.slice (some ⟨g, 0, none⟩) n n) (mixL (mixAt a b c) n k)) ∧ Hid (Below g w1 wr)) (fun i _ => n - (intOf i).toNat)
  case atStart => exact ⟨0, Nat.zero_le _, rfl, HR, HB⟩
  case round =>
    clear HR HB
    obtain ⟨k, hk, rfl, HR, HB⟩ := hrel
    by_cases hlt : k < n
    · have hcell := HR.out.cell (mixL_length _ _ _) k hlt
      have hfr := World.ownsRow.frozenAt (by have := HR.out; unfold BRow at this; rw [mixL_length] at this; exact this) k
      have ka : k < a.size := by omega
      have kb : k < b.size := by omega
      have kc : k < c.size := by omega
      have ia : (k : Int) < (a.size : Int) := by omega
      have ib : (k : Int) < (b.size : Int) := by omega
      have ic : (k : Int) < (c.size : Int) := by omega
      have ik : (k : Int) < (n : Int) := by omega
      have HM := Lib.hid (mixAt_get a b c k ka kb kc)
      have HS := Lib.hid (HR.out.store hlt)
      go_wp2
      go_region
      rw [HM.out]
      go_wp2
      go_roundw
      case rel => exact ⟨k + 1, by omega, by go_num, HS, (HB.out.setCell (Nat.le_refl _) _).drew⟩
      case measure => simp [intOf]; omega
    · obtain rfl : k = n := by omega
      have hs (s : ByteArray) : (s.extract 0 k).size ≤ 3000 := by rw [ext_take, bs_size, List.length_take]; omega
      have hsum : crcL (mixL (mixAt a b c) k k) = crcL (a.extract 0 k).data.toList ^^^ crcL (b.extract 0 k).data.toList ^^^ crcL (c.extract 0 k).data.toList := by
        have hl (s : ByteArray) (h : k ≤ s.size) : (s.data.toList.take k).length = k := by rw [List.length_take, str_len]; omega
        rw [mix_zip a b c k ha hb hc, crc_linear _ _ _ (by rw [hl a ha, hl b hb]) (by rw [hl a ha, hl c hc]), ext_take, ext_take, ext_take]
        rfl
      have HSt := Lib.hid fun (Q : Exit → Act → World → Prop) (ops : Array Oper) (hops : ops = opsOf Try.f10 10) => lin_step (Q := Q) hops (rfl : a.extract 0 k = _) (rfl : b.extract 0 k = _) (rfl : c.extract 0 k = _) ha hb hc h3 (hs a) (hs b) (hs c) (mixL_length _ _ _) HR.out hsum
      clear hs hsum
      go_wp2
      refine wp_region_inv (by kernel_rfl) (LinSpec a b c (bs (mixL (mixAt a b c) k k)) (a.extract 0 k) (b.extract 0 k) (c.extract 0 k) k g) [0, 1, 2, 8, 9] 70 (fun w' => Below wr.heap.size wr w') ?h0 (HSt.out _ _ (by kernel_rfl)) ?hend (by kernel_rfl)
      case h0 =>
        refine ⟨rfl, rfl, (Below.refl _ _).drew, ?_⟩
        intro d hd
        simp only [List.mem_cons, List.not_mem_nil, or_false] at hd
        rcases hd with rfl | rfl | rfl | rfl | rfl <;> rfl
      case hend =>
        intro a' w' hz hd hW _ hall
        have h6 : a'.tmps.getD 6 undef = .bool true := hall 22 _ 6 rfl rfl
        have HF : Hid (Below w.heap.size w w') := below_next (below_next H1.out (Nat.le_refl _) (by rw [HG.out]; exact HB.out)) (Nat.le_refl _) hW
        clear hall HSt HR HB
        go_wp2
        exact bodyPost_ret (results_tmp (t := 6) rfl _ _ _) hd ⟨by rw [h6], HF.out⟩

set_option maxRecDepth 100000 in
set_option maxHeartbeats 1000000 in
theorem lin_long (a b c : ByteArray) (n : Nat) (w : World) (hn : min (a.size : Int) (min (b.size : Int) (c.size : Int)) = (n : Int)) (h3 : 3000 < n) :
    Calls Try.prog 10 #[.string a, .string b, .string c] w fun e w' => e = .returned (.bool true) ∧ Below w.heap.size w w' := by
  go_enter Try.func10, Try.ntmps10
  go_wp2_with fail
  refine (wshown_any _).mono ?_
  rintro e w1 ⟨rfl, hb1⟩
  have H1 := Lib.hid hb1; clear hb1
  go_wp2
  go_ret
  exact ⟨rfl, H1.out⟩

theorem lin_any (a b c : ByteArray) (w : World) :
    Calls Try.prog 10 #[.string a, .string b, .string c] w fun e w' => e = .returned (.bool true) ∧ Below w.heap.size w w' := by
  obtain ⟨n, hn⟩ : ∃ n : Nat, min (a.size : Int) (min (b.size : Int) (c.size : Int)) = (n : Int) := ⟨min a.size (min b.size c.size), by omega⟩
  by_cases h : n ≤ 3000
  · exact lin_some a b c n w hn h (by omega) (by omega) (by omega)
  · exact lin_long a b c n w hn (by omega)
end Go.Proofs.Ytojneafmdlohoaa
