/- The sum of bytes: what addByte and Crc answer, for any byte and any texts; nothing that was there is changed. -/
import Derived.Test.YtfmnbabkdpiboaaRows
import Derived.Test.YtfmnbabkdpiboaaZWMath
import Derived.WalkSpells
import Derived.WalkLawsBesides
import Derived.Lib.Hide
import Derived.Laws.BitsAllLaws

namespace Go.Proofs.Ytfmnbabkdpiboaa.Fr
open Go.RowKit

theorem odd_and (x : Nat) (h : x < 4294967296) : bits .and .u32 (x : Int) 1 = ((x % 2 : Nat) : Int) := by
  rw [show (1 : Int) = ((1 : Nat) : Int) from rfl, u32_and_nat x 1 h (by omega), nat_mask1]

theorem xor_u32 (a b : Nat) (ha : a < 4294967296) (hb : b < 4294967296) : bits .xor .u32 (a : Int) (b : Int) = ((a ^^^ b : Nat) : Int) := u32_xor_nat a b ha hb

theorem half_xor (x : Nat) (h : x < 4294967296) : bits .xor .u32 ((x : Int) / 2) 3988292384 = ((x / 2 ^^^ 3988292384 : Nat) : Int) := by
  rw [show (x : Int) / 2 = ((x / 2 : Nat) : Int) by omega, show (3988292384 : Int) = ((3988292384 : Nat) : Int) from rfl, u32_xor_nat _ _ (by omega) (by omega)]
theorem ret_u32 {k : IntKind} {a b : Int} (h : a = b) : Value.int k a = .int k b := by rw [h]

set_option maxRecDepth 100000 in
set_option maxHeartbeats 1000000 in
theorem addByte_any (c : Nat) (b : UInt8) (w : World) (hc : c < 4294967296) :
    Calls Try.prog 45 #[.int .u32 (c : Int), .int .u8 (b.toNat : Int)] w fun e w' => e = .returned (.int .u32 ((addB c b : Nat) : Int)) ∧ w = w' := by
  have hb := byte_lt b
  have HX := Lib.hid (xor_u32 c b.toNat hc (by omega))
  have HL := Lib.hid (xor_lt32 c b.toNat hc (by omega))
  go_enter Try.func45, Try.ntmps45
  go_wp2
  go_loop [0, 10] (fun s i => ∃ k : Nat, k ≤ 8 ∧ i = .int .i64 k ∧ s = .int .u32 ((cIter k (c ^^^ b.toNat) : Nat) : Int)) (fun _ i => 8 - (intOf i).toNat)
  case atStart => exact ⟨0, Nat.zero_le _, rfl, ret_u32 HX.out⟩
  case round =>
    obtain ⟨k, hk, rfl, rfl⟩ := hrel
    have hxl := cIter_lt k _ HL.out
    obtain ⟨x, hx⟩ : ∃ x, cIter k (c ^^^ b.toNat) = x := ⟨_, rfl⟩
    have HS : Hid (cIter (k + 1) (c ^^^ b.toNat) = cStep x) := by show _ = _; rw [cIter_succ', hx]
    rw [hx] at hxl ⊢
    have HXX := Lib.hid hx; clear hx
    by_cases hlt : k < 8
    · by_cases ho : x % 2 = 1
      · have hand : bits .and .u32 (x : Int) 1 = 1 := by rw [odd_and x hxl, ho]; rfl
        have HF : Hid (bits .xor .u32 ((x : Int) / 2) 3988292384 = ((cStep x : Nat) : Int)) := by show _ = _; rw [half_xor x hxl]; unfold cStep; rw [if_pos ho]
        clear ho
        go_wp2
        go_round
        case rel => exact ⟨k + 1, by omega, by go_num, by rw [HS.out]; exact ret_u32 HF.out⟩
        case measure => simp [intOf]; omega
      · have hand : bits .and .u32 (x : Int) 1 = 0 := by rw [odd_and x hxl, show x % 2 = 0 by omega]; rfl
        have HF : Hid (((x : Int) / 2) = ((cStep x : Nat) : Int)) := by show _ = _; unfold cStep; rw [if_neg ho]; omega
        clear ho
        go_wp2
        go_round
        case rel => exact ⟨k + 1, by omega, by go_num, by rw [HS.out]; exact ret_u32 HF.out⟩
        case measure => simp [intOf]; omega
    · have hk8 : k = 8 := by omega
      subst hk8
      go_wp2
      go_ret
      exact ⟨by rw [← HXX.out]; rfl, rfl⟩

/-- A slice of texts: nil, or so many cells. -/
def Strs (w : World) (v : Value) (L : List ByteArray) : Prop := (v = .slice none 0 0 ∧ L = []) ∨ ∃ b off c, v = .slice (some ⟨b, off, none⟩) L.length c ∧ b < w.heap.size ∧ ∀ j (h : j < L.length), w.cell? ⟨b, off + j, none⟩ = some (.string L[j])
/-- The bytes of texts, one behind the other. -/
def joinB (L : List ByteArray) : List UInt8 := L.flatMap fun s => s.data.toList
theorem joinB_take (L : List ByteArray) (k : Nat) (h : k < L.length) : joinB (L.take (k + 1)) = joinB (L.take k) ++ L[k].data.toList := by
  rw [List.take_succ_eq_append_getElem h]; unfold joinB; rw [List.flatMap_append]; simp only [List.flatMap_cons, List.flatMap_nil, List.append_nil]
theorem take_snoc (s : ByteArray) (k : Nat) (h : k < s.size) : s.data.toList.take (k + 1) = s.data.toList.take k ++ [s[k]] := by
  rw [List.take_succ_eq_append_getElem (by simpa using h)]; rfl
theorem not_u32 (x : Nat) (h : x < 4294967296) : bits .xor .u32 IntKind.u32.max (x : Int) = ((x ^^^ 4294967295 : Nat) : Int) := by
  rw [show IntKind.u32.max = ((4294967295 : Nat) : Int) from rfl, u32_xor_nat _ _ (by omega) h, Nat.xor_comm]

set_option maxRecDepth 100000 in
set_option maxHeartbeats 1000000 in
theorem crc_nil (w : World) :
    Calls Try.prog 25 #[.slice none 0 0] w fun e w' => e = .returned (.int .u32 ((crcL [] : Nat) : Int)) ∧ w = w' := by
  have HN := Lib.hid (show bits .xor .u32 IntKind.u32.max 4294967295 = ((crcL [] : Nat) : Int) from not_u32 4294967295 (by omega))
  go_enter Try.func25, Try.ntmps25
  go_wp2
  go_loop [3, 9] (fun s i => i = .int .i64 0 ∧ s = .int .u32 4294967295) (fun _ _ => 0)
  case atStart => exact ⟨rfl, rfl⟩
  case round =>
    obtain ⟨rfl, rfl⟩ := hrel
    go_wp2
    go_ret
    exact ⟨by rw [← HN.out]; rfl, rfl⟩

set_option maxRecDepth 100000 in
set_option maxHeartbeats 1000000 in
theorem crc_some (L : List ByteArray) (b off c : Nat) (w : World) (hn : L.length ≤ maxLen) (hs : ∀ s ∈ L, s.size ≤ maxLen)
    (hc : ∀ j (h : j < L.length), w.cell? ⟨b, off + j, none⟩ = some (.string L[j])) :
    Calls Try.prog 25 #[.slice (some ⟨b, off, none⟩) L.length c] w fun e w' => e = .returned (.int .u32 ((crcL (joinB L) : Nat) : Int)) ∧ w = w' := by
  unfold maxLen at hn
  have HC := Lib.hid hc; clear hc
  have HS := Lib.hid hs; clear hs
  go_enter Try.func25, Try.ntmps25
  go_wp2
  go_loop [3, 9] (fun s i => ∃ k : Nat, k ≤ L.length ∧ i = .int .i64 k ∧ s = .int .u32 ((crcRaw 4294967295 (joinB (L.take k)) : Nat) : Int)) (fun _ i => L.length - (intOf i).toNat)
  case atStart => exact ⟨0, Nat.zero_le _, rfl, rfl⟩
  case round =>
    obtain ⟨k, hk, rfl, rfl⟩ := hrel
    have hxl := crcRaw_lt (joinB (L.take k)) 4294967295 (by omega)
    obtain ⟨x, hx⟩ : ∃ x, crcRaw 4294967295 (joinB (L.take k)) = x := ⟨_, rfl⟩
    rw [hx] at hxl ⊢
    have HX := Lib.hid hx; clear hx
    by_cases hlt : k < L.length
    · have hcell := HC.out k hlt
      have hsz := HS.out L[k] (List.getElem_mem hlt)
      have HJ : Hid (crcRaw 4294967295 (joinB (L.take (k + 1))) = crcRaw x L[k].data.toList) := by show _ = _; rw [joinB_take L k hlt, crcRaw_append, HX.out]
      unfold maxLen at hsz
      obtain ⟨p, hp⟩ : ∃ p, L[k] = p := ⟨_, rfl⟩
      rw [hp] at hcell hsz HJ
      clear hp
      go_wp2
      go_loop [3, 15] (fun s i => ∃ j : Nat, j ≤ p.size ∧ i = .int .i64 j ∧ s = .int .u32 ((crcRaw x (p.data.toList.take j) : Nat) : Int)) (fun _ i => p.size - (intOf i).toNat)
      case atStart => exact ⟨0, Nat.zero_le _, rfl, rfl⟩
      case round =>
        obtain ⟨j, hj, rfl, rfl⟩ := hrel
        have hyl := crcRaw_lt (p.data.toList.take j) x hxl
        obtain ⟨y, hy⟩ : ∃ y, crcRaw x (p.data.toList.take j) = y := ⟨_, rfl⟩
        rw [hy] at hyl ⊢
        have HY := Lib.hid hy; clear hy
        by_cases hjl : j < p.size
        · have HJ2 : Hid (crcRaw x (p.data.toList.take (j + 1)) = addB y p[j]) := by show _ = _; rw [take_snoc p j hjl, crcRaw_snoc, HY.out]
          go_wp2_with (go_at_call 45; refine (addByte_any y p[j] _ hyl).mono ?_; rintro e w' ⟨rfl, rfl⟩)
          go_round
          case rel => exact ⟨j + 1, by omega, by go_num, by rw [HJ2.out]⟩
          case measure => simp [intOf]; omega
        · have HE : Hid (y = crcRaw x p.data.toList) := by show _ = _; rw [← HY.out, List.take_of_length_le (by simp; omega)]
          go_wp2
          go_round
          case rel => exact ⟨k + 1, by omega, by go_num, by rw [HJ.out, HE.out]⟩
          case measure => simp [intOf]; omega
    · have HE : Hid (bits .xor .u32 IntKind.u32.max (x : Int) = ((crcL (joinB L) : Nat) : Int)) := by
        show _ = _
        rw [not_u32 x hxl, ← HX.out, List.take_of_length_le (by omega)]; rfl
      go_wp2
      go_ret
      exact ⟨by rw [← HE.out]; rfl, rfl⟩

theorem crc_any (L : List ByteArray) (v : Value) (w : World) (hn : L.length ≤ maxLen) (hs : ∀ s ∈ L, s.size ≤ maxLen) (h : Strs w v L) :
    Calls Try.prog 25 #[v] w fun e w' => e = .returned (.int .u32 ((crcL (joinB L) : Nat) : Int)) ∧ w = w' := by
  rcases h with ⟨rfl, rfl⟩ | ⟨b, off, c, rfl, _, hc⟩
  · exact crc_nil w
  · exact crc_some L b off c w hn hs hc
end Go.Proofs.Ytfmnbabkdpiboaa.Fr
/- The document's own sum of bytes is the same: for any text; nothing is changed. -/
namespace Go.Proofs.Ytfmnbabkdpiboaa.Fr
open Go.RowKit

set_option maxRecDepth 100000 in
set_option maxHeartbeats 1000000 in
theorem rcrc_any (p : ByteArray) (w : World) (hs : p.size ≤ maxLen) :
    Calls Try.prog 39 #[.string p] w fun e w' => e = .returned (.int .u32 ((crcL p.data.toList : Nat) : Int)) ∧ w = w' := by
  unfold maxLen at hs
  go_enter Try.func39, Try.ntmps39
  go_wp2
  go_loop [3, 4] (fun s i => ∃ k : Nat, k ≤ p.size ∧ i = .int .i64 k ∧ s = .int .u32 ((crcRaw 4294967295 (p.data.toList.take k) : Nat) : Int)) (fun _ i => p.size - (intOf i).toNat)
  case atStart => exact ⟨0, Nat.zero_le _, rfl, rfl⟩
  case round =>
    obtain ⟨k, hk, rfl, rfl⟩ := hrel
    have hxl := crcRaw_lt (p.data.toList.take k) 4294967295 (by omega)
    obtain ⟨x, hx⟩ : ∃ x, crcRaw 4294967295 (p.data.toList.take k) = x := ⟨_, rfl⟩
    rw [hx] at hxl ⊢
    have HX := Lib.hid hx; clear hx
    by_cases hlt : k < p.size
    · have HJ : Hid (crcRaw 4294967295 (p.data.toList.take (k + 1)) = addB x p[k]) := by show _ = _; rw [take_snoc p k hlt, crcRaw_snoc, HX.out]
      have hbl := byte_lt p[k]
      have HXX := Lib.hid (xor_u32 x p[k].toNat hxl (by omega))
      have HL := Lib.hid (xor_lt32 x p[k].toNat hxl (by omega))
      go_wp2
      go_loop [3, 5] (fun s i => ∃ j : Nat, j ≤ 8 ∧ i = .int .i64 j ∧ s = .int .u32 ((cIter j (x ^^^ p[k].toNat) : Nat) : Int)) (fun _ i => 8 - (intOf i).toNat)
      case atStart => exact ⟨0, Nat.zero_le _, rfl, ret_u32 HXX.out⟩
      case round =>
        obtain ⟨j, hj, rfl, rfl⟩ := hrel
        have hyl := cIter_lt j _ HL.out
        obtain ⟨y, hy⟩ : ∃ y, cIter j (x ^^^ p[k].toNat) = y := ⟨_, rfl⟩
        have HS : Hid (cIter (j + 1) (x ^^^ p[k].toNat) = cStep y) := by show _ = _; rw [cIter_succ', hy]
        rw [hy] at hyl ⊢
        have HY := Lib.hid hy; clear hy
        by_cases hjl : j < 8
        · by_cases ho : y % 2 = 1
          · have HF : Hid (bits .xor .u32 ((y : Int) / 2) 3988292384 = ((cStep y : Nat) : Int)) := by show _ = _; rw [half_xor y hyl]; unfold cStep; rw [if_pos ho]
            have ho' : (y : Int) % 2 = 1 := by omega
            clear ho
            go_wp2
            go_round
            case rel => exact ⟨j + 1, by omega, by go_num, by rw [HS.out]; exact ret_u32 HF.out⟩
            case measure => simp [intOf]; omega
          · have HF : Hid (((y : Int) / 2) = ((cStep y : Nat) : Int)) := by show _ = _; unfold cStep; rw [if_neg ho]; omega
            have ho' : (y : Int) % 2 = 0 := by omega
            clear ho
            go_wp2
            go_round
            case rel => exact ⟨j + 1, by omega, by go_num, by rw [HS.out]; exact ret_u32 HF.out⟩
            case measure => simp [intOf]; omega
        · have hj8 : j = 8 := by omega
          subst hj8
          have HE : Hid (y = addB x p[k]) := by show _ = _; rw [← HY.out]; rfl
          go_wp2
          go_round
          case rel => exact ⟨k + 1, by omega, by go_num, by rw [HJ.out, HE.out]⟩
          case measure => simp [intOf]; omega
    · have HE : Hid (bits .xor .u32 (x : Int) 4294967295 = ((crcL p.data.toList : Nat) : Int)) := by
        show _ = _
        rw [show (4294967295 : Int) = ((4294967295 : Nat) : Int) from rfl, u32_xor_nat _ _ hxl (by omega), ← HX.out, List.take_of_length_le (by simp; omega)]; rfl
      go_wp2
      go_ret
      exact ⟨by rw [← HE.out]; rfl, rfl⟩
end Go.Proofs.Ytfmnbabkdpiboaa.Fr
