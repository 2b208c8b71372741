/- The acts of the statements of layer 7: how they lie in memory. -/
import Derived.Test.YthambopnmhkeeaaGreatZBase
import Derived.Lib.Hide
import Derived.Test.YthambopnmhkeeaaGreatRows
import Derived.Test.YthambopnmhkeeaaGreatZLaw
import Derived.WalkSpells
import Derived.WalkLawsBesides
import Derived.Laws.BitsAllLaws

namespace Go.Proofs.YthambopnmhkeeaaGreat
open Go.RowKit

structure Act7 where
  op : Int
  at_ : Int
  n : Int
  keep : List Bool
  kao : Option Addr
  kcap : Nat
  b : Int
abbrev Act7.agg (a : Act7) : Value := .agg #[.int .i64 a.op, .int .i64 a.at_, .int .i64 a.n, .slice a.kao a.keep.length a.kcap, .int .u8 a.b]
def Act7.cells (a : Act7) : List Value := [.int .i64 a.op, .int .i64 a.at_, .int .i64 a.n, .slice a.kao a.keep.length a.kcap, .int .u8 a.b]
structure Act7.Ok (w0 : World) (a : Act7) : Prop where
  op0 : -9223372036854775808 <= a.op /\ a.op <= 9223372036854775807
  at0 : -9223372036854775808 <= a.at_ /\ a.at_ <= 9223372036854775807
  n0 : -9223372036854775808 <= a.n /\ a.n <= 9223372036854775807
  klen : a.keep.length <= 9223372036854775807
  keeps : a.keep = [] \/ ∃ g off, a.kao = some ⟨g, off, none⟩ /\ g < w0.heap.size /\ ∀ i (h : i < a.keep.length), w0.cell? ⟨g, off + i, none⟩ = some (.bool a.keep[i])
def Acts7 (w0 : World) (v : Value) (L : List Act7) : Prop :=
  (∀ a ∈ L, a.Ok w0) /\ L.length <= 9223372036854775807 /\ ∃ ao cap, v = .slice ao L.length cap /\
    ∀ i (h : i < L.length), ∃ g off, ao = some ⟨g, off, none⟩ /\ g < w0.heap.size /\ ∀ j u, (L[i]).cells[j]? = some u -> w0.cell? ⟨g, off + i * 5 + j, none⟩ = some u
def small7 (L : List Act7) : Bool := decide (L.length <= 80 /\ ∀ a ∈ L, a.keep.length <= 200)

section
variable {w0 w : World} {v : Value} {L : List Act7}
theorem Acts7.cell (h : Acts7 w0 v L) (hb : Below w0.heap.size w0 w) (i : Nat) (hi : i < L.length) :
    ∃ g off cap, v = .slice (some ⟨g, off, none⟩) L.length cap /\ w.cell? ⟨g, off + i * 5, none⟩ = some (.int .i64 L[i].op) /\ w.cell? ⟨g, off + i * 5 + 1, none⟩ = some (.int .i64 L[i].at_) /\ w.cell? ⟨g, off + i * 5 + 2, none⟩ = some (.int .i64 L[i].n) /\
      w.cell? ⟨g, off + i * 5 + 3, none⟩ = some (.slice L[i].kao L[i].keep.length L[i].kcap) /\ w.cell? ⟨g, off + i * 5 + 4, none⟩ = some (.int .u8 L[i].b) := by
  obtain ⟨_, _, ao, cap, rfl, hc⟩ := h
  obtain ⟨g, off, rfl, hg, hc⟩ := hc i hi
  have hk : ∀ o, w.cell? ⟨g, o, none⟩ = w0.cell? ⟨g, o, none⟩ := fun o => hb.cell (p := ⟨g, o, none⟩) hg
  exact ⟨g, off, cap, rfl, (hk _).trans (hc 0 _ rfl), (hk _).trans (hc 1 _ rfl), (hk _).trans (hc 2 _ rfl), (hk _).trans (hc 3 _ rfl), (hk _).trans (hc 4 _ rfl)⟩
theorem take_snoc7 {α : Type} (L : List α) (k : Nat) (h : k < L.length) : L.take (k + 1) = L.take k ++ [L[k]] := by
  rw [List.take_succ_eq_append_getElem h]

set_option maxRecDepth 100000 in
set_option maxHeartbeats 2000000 in
theorem small7_any (h : Acts7 w0 v L) (hb : Below w0.heap.size w0 w) :
    Calls Tryz.prog 11 #[v] w fun e w' => e = .returned (.bool (small7 L)) /\ w = w' := by
  obtain ⟨ao, cap, hv⟩ : ∃ ao cap, v = .slice ao L.length cap := by obtain ⟨_, _, ao, cap, hv, _⟩ := h; exact ⟨ao, cap, hv⟩
  have hlen := h.2.1
  by_cases hl : 80 < L.length
  . have HS : Hid (small7 L = false) := by
      show small7 L = false; unfold small7; simp only [decide_eq_false_iff_not]; omega
    subst hv
    clear h
    generalize L.length = n at *
    go_enter Tryz.func11, Tryz.ntmps11
    go_wp2
    go_ret
    exact ⟨by rw [HS.out]; rfl, rfl⟩
  . have HL := Lib.hid hv
    have hl' : L.length <= 80 := by omega
    have HA := Lib.hid h; have HB := Lib.hid hb
    clear h hb hl
    obtain ⟨n, hn⟩ : ∃ n, L.length = n := ⟨_, rfl⟩
    have HN := Lib.hid hn
    rw [hn] at hlen hl' hv
    clear hn
    subst hv
    go_enter Tryz.func11, Tryz.ntmps11
    go_wp2_with fail
    go_loop [3] (fun i => ∃ k : Nat, k <= n /\ i = .int .i64 k /\ Hid (∀ a ∈ L.take k, a.keep.length <= 200)) (fun i => n - (intOf i).toNat)
    case atStart => exact ⟨0, Nat.zero_le _, rfl, fun a ha => by simp at ha⟩
    case round =>
      obtain ⟨k, hk, rfl, HP⟩ := hrel
      by_cases hlt : k < n
      . have hkL : k < L.length := by rw [HN.out]; exact hlt
        obtain ⟨g, off, cap', hv, c0, c1, c2, c3, c4⟩ := HA.out.cell HB.out k hkL
        obtain ⟨rfl, _, rfl⟩ : ao = some ⟨g, off, none⟩ /\ n = L.length /\ cap = cap' := by simpa using hv
        have HT := Lib.hid (take_snoc7 L k hkL)
        have HM : Hid (L[k] ∈ L) := List.getElem_mem hkL
        have hka := (HA.out.1 L[k] (List.getElem_mem hkL)).klen
        clear hv c0 c1 c2
        generalize L[k] = a at *
        by_cases h2 : a.keep.length <= 200
        . go_wp2
          go_round
          case rel =>
            refine ⟨k + 1, by omega, by go_num, fun b hb => ?_⟩
            rw [HT.out, List.mem_append, List.mem_singleton] at hb
            rcases hb with hb | rfl
            . exact HP.out b hb
            . exact h2
          case measure => simp [intOf]; omega
        . have HS : Hid (small7 L = false) := by
            show small7 L = false; unfold small7; simp only [decide_eq_false_iff_not]
            intro hh; exact h2 (hh.2 a HM.out)
          go_wp2
          go_ret
          exact ⟨by rw [HS.out]; rfl, rfl⟩
      . have HS : Hid (small7 L = true) := by
          show small7 L = true; unfold small7; simp only [decide_eq_true_eq]
          refine ⟨by rw [HN.out]; exact hl', fun a ha => HP.out a ?_⟩
          rw [List.take_of_length_le (by rw [HN.out]; omega)]; exact ha
        go_wp2
        go_ret
        exact ⟨by rw [HS.out]; rfl, rfl⟩
end
end Go.Proofs.YthambopnmhkeeaaGreat
/- The sum of bytes: what addByte and Crc answer, for any byte and any texts; nothing that was there is changed. -/
namespace Go.Proofs.YthambopnmhkeeaaGreat.Fr
open Go.RowKit

theorem odd_and (x : Nat) (h : x < 4294967296) : bits .and .u32 (x : Int) 1 = ((x % 2 : Nat) : Int) := by
  rw [show (1 : Int) = ((1 : Nat) : Int) from rfl, u32_and_nat x 1 h (by omega), nat_mask1]

theorem xor_u32 (a b : Nat) (ha : a < 4294967296) (hb : b < 4294967296) : bits .xor .u32 (a : Int) (b : Int) = ((a ^^^ b : Nat) : Int) := u32_xor_nat a b ha hb

theorem half_xor (x : Nat) (h : x < 4294967296) : bits .xor .u32 ((x : Int) / 2) 3988292384 = ((x / 2 ^^^ 3988292384 : Nat) : Int) := by
  rw [show (x : Int) / 2 = ((x / 2 : Nat) : Int) by omega, show (3988292384 : Int) = ((3988292384 : Nat) : Int) from rfl, u32_xor_nat _ _ (by omega) (by omega)]
theorem ret_u32 {k : IntKind} {a b : Int} (h : a = b) : Value.int k a = .int k b := by rw [h]

set_option maxRecDepth 100000 in
set_option maxHeartbeats 1000000 in
theorem addByte_any (c : Nat) (b : UInt8) (w : World) (hc : c < 4294967296) :
    Calls Tryz.prog 224 #[.int .u32 (c : Int), .int .u8 (b.toNat : Int)] w fun e w' => e = .returned (.int .u32 ((addB c b : Nat) : Int)) /\ w = w' := by
  have hb := byte_lt b
  have HX := Lib.hid (xor_u32 c b.toNat hc (by omega))
  have HL := Lib.hid (xor_lt32 c b.toNat hc (by omega))
  go_enter Tryz.func224, Tryz.ntmps224
  go_wp2
  go_loop [0, 10] (fun s i => ∃ k : Nat, k <= 8 /\ i = .int .i64 k /\ s = .int .u32 ((cIter k (c ^^^ b.toNat) : Nat) : Int)) (fun _ i => 8 - (intOf i).toNat)
  case atStart => exact ⟨0, Nat.zero_le _, rfl, ret_u32 HX.out⟩
  case round =>
    obtain ⟨k, hk, rfl, rfl⟩ := hrel
    have hxl := cIter_lt k _ HL.out
    obtain ⟨x, hx⟩ : ∃ x, cIter k (c ^^^ b.toNat) = x := ⟨_, rfl⟩
    have HS : Hid (cIter (k + 1) (c ^^^ b.toNat) = cStep x) := by show _ = _; rw [cIter_succ', hx]
    rw [hx] at hxl ⊢
    have HXX := Lib.hid hx; clear hx
    by_cases hlt : k < 8
    . by_cases ho : x % 2 = 1
      . have hand : bits .and .u32 (x : Int) 1 = 1 := by rw [odd_and x hxl, ho]; rfl
        have HF : Hid (bits .xor .u32 ((x : Int) / 2) 3988292384 = ((cStep x : Nat) : Int)) := by show _ = _; rw [half_xor x hxl]; unfold cStep; rw [if_pos ho]
        clear ho
        go_wp2
        go_round
        case rel => exact ⟨k + 1, by omega, by go_num, by rw [HS.out]; exact ret_u32 HF.out⟩
        case measure => simp [intOf]; omega
      . have hand : bits .and .u32 (x : Int) 1 = 0 := by rw [odd_and x hxl, show x % 2 = 0 by omega]; rfl
        have HF : Hid (((x : Int) / 2) = ((cStep x : Nat) : Int)) := by show _ = _; unfold cStep; rw [if_neg ho]; omega
        clear ho
        go_wp2
        go_round
        case rel => exact ⟨k + 1, by omega, by go_num, by rw [HS.out]; exact ret_u32 HF.out⟩
        case measure => simp [intOf]; omega
    . have hk8 : k = 8 := by omega
      subst hk8
      go_wp2
      go_ret
      exact ⟨by rw [<- HXX.out]; rfl, rfl⟩

def joinB (L : List ByteArray) : List UInt8 := L.flatMap fun s => s.data.toList
theorem joinB_take (L : List ByteArray) (k : Nat) (h : k < L.length) : joinB (L.take (k + 1)) = joinB (L.take k) ++ L[k].data.toList := by
  rw [List.take_succ_eq_append_getElem h]; unfold joinB; rw [List.flatMap_append]; simp only [List.flatMap_cons, List.flatMap_nil, List.append_nil]
theorem take_snoc (s : ByteArray) (k : Nat) (h : k < s.size) : s.data.toList.take (k + 1) = s.data.toList.take k ++ [s[k]] := by
  rw [List.take_succ_eq_append_getElem (by simpa using h)]; rfl
theorem not_u32 (x : Nat) (h : x < 4294967296) : bits .xor .u32 IntKind.u32.max (x : Int) = ((x ^^^ 4294967295 : Nat) : Int) := by
  rw [show IntKind.u32.max = ((4294967295 : Nat) : Int) from rfl, u32_xor_nat _ _ (by omega) h, Nat.xor_comm]

set_option maxRecDepth 100000 in
set_option maxHeartbeats 1000000 in
theorem crc_some (L : List ByteArray) (b off c : Nat) (w : World) (hn : L.length <= maxLen) (hs : ∀ s ∈ L, s.size <= maxLen)
    (hc : ∀ j (h : j < L.length), w.cell? ⟨b, off + j, none⟩ = some (.string L[j])) :
    Calls Tryz.prog 207 #[.slice (some ⟨b, off, none⟩) L.length c] w fun e w' => e = .returned (.int .u32 ((crcL (joinB L) : Nat) : Int)) /\ w = w' := by
  unfold maxLen at hn
  have HC := Lib.hid hc; clear hc
  have HS := Lib.hid hs; clear hs
  go_enter Tryz.func207, Tryz.ntmps207
  go_wp2
  go_loop [3, 9] (fun s i => ∃ k : Nat, k <= L.length /\ i = .int .i64 k /\ s = .int .u32 ((crcRaw 4294967295 (joinB (L.take k)) : Nat) : Int)) (fun _ i => L.length - (intOf i).toNat)
  case atStart => exact ⟨0, Nat.zero_le _, rfl, rfl⟩
  case round =>
    obtain ⟨k, hk, rfl, rfl⟩ := hrel
    have hxl := crcRaw_lt (joinB (L.take k)) 4294967295 (by omega)
    obtain ⟨x, hx⟩ : ∃ x, crcRaw 4294967295 (joinB (L.take k)) = x := ⟨_, rfl⟩
    rw [hx] at hxl ⊢
    have HX := Lib.hid hx; clear hx
    by_cases hlt : k < L.length
    . have hcell := HC.out k hlt
      have hsz := HS.out L[k] (List.getElem_mem hlt)
      have HJ : Hid (crcRaw 4294967295 (joinB (L.take (k + 1))) = crcRaw x L[k].data.toList) := by show _ = _; rw [joinB_take L k hlt, crcRaw_append, HX.out]
      unfold maxLen at hsz
      obtain ⟨p, hp⟩ : ∃ p, L[k] = p := ⟨_, rfl⟩
      rw [hp] at hcell hsz HJ
      clear hp
      go_wp2
      go_loop [3, 15] (fun s i => ∃ j : Nat, j <= p.size /\ i = .int .i64 j /\ s = .int .u32 ((crcRaw x (p.data.toList.take j) : Nat) : Int)) (fun _ i => p.size - (intOf i).toNat)
      case atStart => exact ⟨0, Nat.zero_le _, rfl, rfl⟩
      case round =>
        obtain ⟨j, hj, rfl, rfl⟩ := hrel
        have hyl := crcRaw_lt (p.data.toList.take j) x hxl
        obtain ⟨y, hy⟩ : ∃ y, crcRaw x (p.data.toList.take j) = y := ⟨_, rfl⟩
        rw [hy] at hyl ⊢
        have HY := Lib.hid hy; clear hy
        by_cases hjl : j < p.size
        . have HJ2 : Hid (crcRaw x (p.data.toList.take (j + 1)) = addB y p[j]) := by show _ = _; rw [take_snoc p j hjl, crcRaw_snoc, HY.out]
          go_wp2_with (go_at_call 224; refine (addByte_any y p[j] _ hyl).mono ?_; rintro e w' ⟨rfl, rfl⟩)
          go_round
          case rel => exact ⟨j + 1, by omega, by go_num, by rw [HJ2.out]⟩
          case measure => simp [intOf]; omega
        . have HE : Hid (y = crcRaw x p.data.toList) := by show _ = _; rw [<- HY.out, List.take_of_length_le (by simp; omega)]
          go_wp2
          go_round
          case rel => exact ⟨k + 1, by omega, by go_num, by rw [HJ.out, HE.out]⟩
          case measure => simp [intOf]; omega
    . have HE : Hid (bits .xor .u32 IntKind.u32.max (x : Int) = ((crcL (joinB L) : Nat) : Int)) := by
        show _ = _
        rw [not_u32 x hxl, <- HX.out, List.take_of_length_le (by omega)]; rfl
      go_wp2
      go_ret
      exact ⟨by rw [<- HE.out]; rfl, rfl⟩

end Go.Proofs.YthambopnmhkeeaaGreat.Fr
