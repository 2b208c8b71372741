/- The document's runes: Is, Bytes. -/
import Derived.Test.YtbblmpibekkbfaaDoorRows
import Derived.Test.YtbblmpibekkbfaaDoorUMath
import Derived.WalkSpells
import Derived.WalkLawsBesides
import Derived.Lib.Hide
import Derived.IntWalk
import Derived.Deep.QuietTactic
import Derived.BigQuiet
namespace Go.Proofs.YtbblmpibekkbfaaDoor
open Go.RowKit

def utxt (l : List UInt8) : ByteArray := ⟨l.toArray⟩
theorem utxt_data (l : List UInt8) : (utxt l).data.toList = l := rfl
theorem utxt_size (l : List UInt8) : (utxt l).size = l.length := by unfold utxt; show l.toArray.size = _; rw [List.size_toArray]
theorem utxt_of (s : ByteArray) : utxt s.data.toList = s := rfl
theorem utxt_app (l m : List UInt8) : utxt l ++ utxt m = utxt (l ++ m) := by
  apply ByteArray.ext
  simp [utxt]
theorem ustr_of (l : List UInt8) : strOfNums (l.map fun b => (b.toNat : Int)) = utxt l := by
  unfold strOfNums utxt
  rw [List.map_map]
  congr 2
  conv => rhs; rw [← List.map_id l]
  apply List.map_congr_left
  intro b _
  simp
theorem data_len (s : ByteArray) : s.data.toList.length = s.size := Array.length_toList

/-- Is an int a rune? -/
def isI (r : Int) : Bool := decide (0 ≤ r ∧ r ≤ 1114111 ∧ (r < 55296 ∨ 57343 < r))
theorem isI_nat (r : Nat) : isI (r : Int) = isRn r := by
  unfold isI isRn
  rw [decide_eq_decide]
  omega
theorem isI_of {r : Int} (h : isI r = true) : ∃ k : Nat, r = k ∧ isRn k = true := by
  have h2 := h
  unfold isI at h2
  have h3 := of_decide_eq_true h2
  obtain ⟨k, rfl⟩ := Int.eq_ofNat_of_zero_le h3.1
  exact ⟨k, rfl, by rw [← isI_nat]; exact h⟩
set_option maxRecDepth 100000 in
theorem is_any (r : Int) (w : World) (h : -9223372036854775808 ≤ r ∧ r ≤ 9223372036854775807) : Calls Tryd.prog 30 #[.int .i64 r] w fun e w' => e = .returned (.bool (isI r)) ∧ w = w' := by
  have hyes : 0 ≤ r → r ≤ 1114111 → (r < 55296 ∨ 57343 < r) → isI r = true := fun a b c => by unfold isI; exact decide_eq_true ⟨a, b, c⟩
  have hno : (r < 0 ∨ 1114111 < r ∨ (¬ r < 55296 ∧ ¬ 57343 < r)) → isI r = false := fun a => by unfold isI; exact decide_eq_false (by omega)
  by_cases h0 : 0 ≤ r
  · by_cases h1 : r ≤ 1114111
    · by_cases h2 : r < 55296
      · rw [hyes h0 h1 (.inl h2)]
        clear hyes hno
        go_enter Tryd.func30, Tryd.ntmps30
        go_wp2
        go_ret
        exact ⟨rfl, rfl⟩
      · by_cases h3 : 57343 < r
        · rw [hyes h0 h1 (.inr h3)]
          clear hyes hno
          go_enter Tryd.func30, Tryd.ntmps30
          go_wp2
          go_ret
          exact ⟨rfl, rfl⟩
        · rw [hno (.inr (.inr ⟨h2, h3⟩))]
          clear hyes hno
          go_enter Tryd.func30, Tryd.ntmps30
          go_wp2
          go_ret
          exact ⟨rfl, rfl⟩
    · rw [hno (by omega)]
      clear hyes hno
      go_enter Tryd.func30, Tryd.ntmps30
      go_wp2
      go_ret
      exact ⟨rfl, rfl⟩
  · rw [hno (by omega)]
    clear hyes hno
    go_enter Tryd.func30, Tryd.ntmps30
    go_wp2
    go_ret
    exact ⟨rfl, rfl⟩

theorem ucell_at {w : World} {b : Nat} {cs : Array Value} {t : TypeId} {o : Nat × Nat} (h : w.heap[b]? = some (.cells cs t o)) (i : Nat) : w.cell? ⟨b, i, none⟩ = cs[i]? := by
  simp [World.cell?, h]
theorem conv_lit (w W : World) (l : List Int) (hW : W.heap[w.heap.size]? = some (.cells (l.map (Value.int .u8)).toArray 5 (0, 0))) :
    (convert 43 9 (.slice (some ⟨w.heap.size, 0, none⟩) l.length l.length)).run Tryd.prog W = .ok (.string (strOfNums l)) W := by
  refine run_convert_bytes_arg W 43 5 Tryd.underlying43 Tryd.underlying5 w.heap.size 0 l.length l.length l rfl (fun i hi => ?_) 9 Tryd.underlying9
  rw [ucell_at hW, Nat.zero_add]
  simp [List.getD, hi]

set_option maxRecDepth 100000 in
set_option maxHeartbeats 1000000 in
theorem bytes_any (r : Nat) (w : World) (h : isRn r = true) : Calls Tryd.prog 31 #[.int .i64 (r : Int)] w fun e w' => e = .returned (.string (utxt (byts r))) ∧ Below w.heap.size w w' := by
  have hr : r ≤ 0x10FFFF := by unfold isRn at h; exact (of_decide_eq_true h).1
  rw [← ustr_of]
  unfold byts
  clear h
  by_cases h1 : r < 0x80
  · rw [if_pos h1]
    have hres : Hid ([UInt8.ofNat r].map (fun b => (b.toNat : Int)) = [(r : Int)]) := by
      show [((UInt8.ofNat r).toNat : Int)] = _
      rw [u8_of r (by omega)]
    have hc : (convert 43 9 (.slice (some ⟨w.heap.size, 0, none⟩) 1 1)).run Tryd.prog (w.alloc (.cells #[.int .u8 ((r : Int))] 5)) = .ok (.string (strOfNums [(r : Int)])) (w.alloc (.cells #[.int .u8 ((r : Int))] 5)) := conv_lit w _ [(r : Int)] (heap_alloc_new ..)
    rw [hres.out]
    have c0 : IntKind.u8.wrap (r : Int) = (r : Int) := IntWalk.u8_in _ (by omega)
    have d0 : (r : Int) < 128 := by omega
    go_enter Tryd.func31, Tryd.ntmps31
    go_wp2
    go_ret
    exact ⟨rfl, (Below.refl _ _).alloc (Nat.le_refl _) _⟩
  by_cases h2 : r < 0x800
  · rw [if_neg h1, if_pos h2]
    have hres : Hid ([UInt8.ofNat (0xC0 + r / 64), UInt8.ofNat (0x80 + r % 64)].map (fun b => (b.toNat : Int)) = [192 + ((r / 64 : Nat) : Int), 128 + ((r % 64 : Nat) : Int)]) := by
      show [((UInt8.ofNat _).toNat : Int), ((UInt8.ofNat _).toNat : Int)] = _
      rw [u8_of (0xC0 + r / 64) (by omega), u8_of (0x80 + r % 64) (by omega)]
      rfl
    rw [hres.out]
    have q1 : (r : Int) / 64 = ((r / 64 : Nat) : Int) := by omega
    have q2 : (r : Int) % 64 = ((r % 64 : Nat) : Int) := by omega
    have b1 : r / 64 < 32 := by omega
    have b2 : r % 64 < 64 := by omega
    have d0 : ¬ (r : Int) < 128 := by omega
    have d1 : (r : Int) < 2048 := by omega
    clear hres
    generalize r / 64 = x1 at *
    generalize r % 64 = x2 at *
    have hc : (convert 43 9 (.slice (some ⟨w.heap.size, 0, none⟩) 2 2)).run Tryd.prog (w.alloc (.cells #[.int .u8 (192 + (x1 : Int)), .int .u8 (128 + (x2 : Int))] 5)) = .ok (.string (strOfNums [192 + (x1 : Int), 128 + (x2 : Int)])) (w.alloc (.cells #[.int .u8 (192 + (x1 : Int)), .int .u8 (128 + (x2 : Int))] 5)) := conv_lit w _ [192 + (x1 : Int), 128 + (x2 : Int)] (heap_alloc_new ..)
    have c1 : IntKind.u8.wrap (192 + (x1 : Int)) = 192 + (x1 : Int) := IntWalk.u8_in _ (by omega)
    have c2 : IntKind.u8.wrap (128 + (x2 : Int)) = 128 + (x2 : Int) := IntWalk.u8_in _ (by omega)
    go_enter Tryd.func31, Tryd.ntmps31
    go_wp2
    go_ret
    exact ⟨rfl, (Below.refl _ _).alloc (Nat.le_refl _) _⟩
  by_cases h3 : r < 0x10000
  · rw [if_neg h1, if_neg h2, if_pos h3]
    have hres : Hid ([UInt8.ofNat (0xE0 + r / 4096), UInt8.ofNat (0x80 + r / 64 % 64), UInt8.ofNat (0x80 + r % 64)].map (fun b => (b.toNat : Int)) = [224 + ((r / 4096 : Nat) : Int), 128 + ((r / 64 % 64 : Nat) : Int), 128 + ((r % 64 : Nat) : Int)]) := by
      show [((UInt8.ofNat _).toNat : Int), ((UInt8.ofNat _).toNat : Int), ((UInt8.ofNat _).toNat : Int)] = _
      rw [u8_of (0xE0 + r / 4096) (by omega), u8_of (0x80 + r / 64 % 64) (by omega), u8_of (0x80 + r % 64) (by omega)]
      rfl
    rw [hres.out]
    have q1 : (r : Int) / 4096 = ((r / 4096 : Nat) : Int) := by omega
    have q2 : (r : Int) % 64 = ((r % 64 : Nat) : Int) := by omega
    have q3 : (r : Int) / 64 = ((r / 64 : Nat) : Int) := by omega
    have q4 : ((r / 64 : Nat) : Int) % 64 = ((r / 64 % 64 : Nat) : Int) := by omega
    have b1 : r / 4096 < 16 := by omega
    have b2 : r % 64 < 64 := by omega
    have b3 : r / 64 % 64 < 64 := by omega
    have b4 : r / 64 < 1024 := by omega
    have d0 : ¬ (r : Int) < 128 := by omega
    have d1 : ¬ (r : Int) < 2048 := by omega
    have d2 : (r : Int) < 65536 := by omega
    clear hres
    generalize r / 64 % 64 = x3 at *
    generalize r / 64 = x4 at *
    generalize r / 4096 = x1 at *
    generalize r % 64 = x2 at *
    have hc : (convert 43 9 (.slice (some ⟨w.heap.size, 0, none⟩) 3 3)).run Tryd.prog (w.alloc (.cells #[.int .u8 (224 + (x1 : Int)), .int .u8 (128 + (x3 : Int)), .int .u8 (128 + (x2 : Int))] 5)) = .ok (.string (strOfNums [224 + (x1 : Int), 128 + (x3 : Int), 128 + (x2 : Int)])) (w.alloc (.cells #[.int .u8 (224 + (x1 : Int)), .int .u8 (128 + (x3 : Int)), .int .u8 (128 + (x2 : Int))] 5)) := conv_lit w _ [224 + (x1 : Int), 128 + (x3 : Int), 128 + (x2 : Int)] (heap_alloc_new ..)
    have c1 : IntKind.u8.wrap (224 + (x1 : Int)) = 224 + (x1 : Int) := IntWalk.u8_in _ (by omega)
    have c2 : IntKind.u8.wrap (128 + (x2 : Int)) = 128 + (x2 : Int) := IntWalk.u8_in _ (by omega)
    have c3 : IntKind.u8.wrap (128 + (x3 : Int)) = 128 + (x3 : Int) := IntWalk.u8_in _ (by omega)
    go_enter Tryd.func31, Tryd.ntmps31
    go_wp2
    go_ret
    exact ⟨rfl, (Below.refl _ _).alloc (Nat.le_refl _) _⟩
  · rw [if_neg h1, if_neg h2, if_neg h3]
    have hres : Hid ([UInt8.ofNat (0xF0 + r / 262144), UInt8.ofNat (0x80 + r / 4096 % 64), UInt8.ofNat (0x80 + r / 64 % 64), UInt8.ofNat (0x80 + r % 64)].map (fun b => (b.toNat : Int)) = [240 + ((r / 262144 : Nat) : Int), 128 + ((r / 4096 % 64 : Nat) : Int), 128 + ((r / 64 % 64 : Nat) : Int), 128 + ((r % 64 : Nat) : Int)]) := by
      show [((UInt8.ofNat _).toNat : Int), ((UInt8.ofNat _).toNat : Int), ((UInt8.ofNat _).toNat : Int), ((UInt8.ofNat _).toNat : Int)] = _
      rw [u8_of (0xF0 + r / 262144) (by omega), u8_of (0x80 + r / 4096 % 64) (by omega), u8_of (0x80 + r / 64 % 64) (by omega), u8_of (0x80 + r % 64) (by omega)]
      rfl
    rw [hres.out]
    have q0 : (r : Int) / 262144 = ((r / 262144 : Nat) : Int) := by omega
    have q1 : (r : Int) / 4096 = ((r / 4096 : Nat) : Int) := by omega
    have q2 : (r : Int) % 64 = ((r % 64 : Nat) : Int) := by omega
    have q3 : (r : Int) / 64 = ((r / 64 : Nat) : Int) := by omega
    have q4 : ((r / 64 : Nat) : Int) % 64 = ((r / 64 % 64 : Nat) : Int) := by omega
    have q5 : ((r / 4096 : Nat) : Int) % 64 = ((r / 4096 % 64 : Nat) : Int) := by omega
    have b0 : r / 262144 < 5 := by omega
    have b1 : r / 4096 < 512 := by omega
    have b2 : r % 64 < 64 := by omega
    have b3 : r / 64 % 64 < 64 := by omega
    have b4 : r / 64 < 32768 := by omega
    have b5 : r / 4096 % 64 < 64 := by omega
    have d0 : ¬ (r : Int) < 128 := by omega
    have d1 : ¬ (r : Int) < 2048 := by omega
    have d2 : ¬ (r : Int) < 65536 := by omega
    clear hres
    generalize r / 64 % 64 = x3 at *
    generalize r / 4096 % 64 = x5 at *
    generalize r / 64 = x4 at *
    generalize r / 4096 = x1 at *
    generalize r / 262144 = x0 at *
    generalize r % 64 = x2 at *
    have hc : (convert 43 9 (.slice (some ⟨w.heap.size, 0, none⟩) 4 4)).run Tryd.prog (w.alloc (.cells #[.int .u8 (240 + (x0 : Int)), .int .u8 (128 + (x5 : Int)), .int .u8 (128 + (x3 : Int)), .int .u8 (128 + (x2 : Int))] 5)) = .ok (.string (strOfNums [240 + (x0 : Int), 128 + (x5 : Int), 128 + (x3 : Int), 128 + (x2 : Int)])) (w.alloc (.cells #[.int .u8 (240 + (x0 : Int)), .int .u8 (128 + (x5 : Int)), .int .u8 (128 + (x3 : Int)), .int .u8 (128 + (x2 : Int))] 5)) := conv_lit w _ [240 + (x0 : Int), 128 + (x5 : Int), 128 + (x3 : Int), 128 + (x2 : Int)] (heap_alloc_new ..)
    have c1 : IntKind.u8.wrap (240 + (x0 : Int)) = 240 + (x0 : Int) := IntWalk.u8_in _ (by omega)
    have c2 : IntKind.u8.wrap (128 + (x2 : Int)) = 128 + (x2 : Int) := IntWalk.u8_in _ (by omega)
    have c3 : IntKind.u8.wrap (128 + (x3 : Int)) = 128 + (x3 : Int) := IntWalk.u8_in _ (by omega)
    have c5 : IntKind.u8.wrap (128 + (x5 : Int)) = 128 + (x5 : Int) := IntWalk.u8_in _ (by omega)
    go_enter Tryd.func31, Tryd.ntmps31
    go_wp2
    go_ret
    exact ⟨rfl, (Below.refl _ _).alloc (Nat.le_refl _) _⟩
end Go.Proofs.YtbblmpibekkbfaaDoor
