/- Numbers of four bytes: what Fixed and ToFixed answer, and the document's own: the same. -/
import Derived.Test.YtfmnbabkdpiboaaZWCrc
import Derived.Test.YtfmnbabkdpiboaaZWMath
import Derived.Laws.BytesArg
import Derived.Deep.QuietTactic
import Derived.BigQuiet
import Derived.Lib.AppendStr
import Derived.Laws.IdiomStrings

namespace Go.Proofs.Ytfmnbabkdpiboaa.Fr
open Go.RowKit

/-- Bytes as a text. -/
def bs (l : List UInt8) : ByteArray := ⟨l.toArray⟩

theorem cell_at {w : World} {b : Nat} {cs : Array Value} {t : TypeId} {s : Nat × Nat} {k : Nat} (h : w.heap[b]? = some (.cells cs t s)) : w.cell? ⟨b, k, none⟩ = cs[k]? := by
  simp [World.cell?, h]

theorem conv4 (w : World) (a b c d : Int) : (convert 44 9 (.slice (some ⟨w.heap.size, 0, none⟩) 4 4)).run Try.prog (w.alloc (.cells #[.int .u8 a, .int .u8 b, .int .u8 c, .int .u8 d] 5)) = .ok (.string (strOfNums [a, b, c, d])) (w.alloc (.cells #[.int .u8 a, .int .u8 b, .int .u8 c, .int .u8 d] 5)) := by
  refine run_convert_bytes_arg _ 44 5 Try.underlying44 Try.underlying5 w.heap.size 0 4 4 [a, b, c, d] rfl ?_ 9 Try.underlying9
  intro i hi
  rw [cell_at (heap_alloc_new ..)]
  match i, hi with
  | 0, _ => rfl
  | 1, _ => rfl
  | 2, _ => rfl
  | 3, _ => rfl
theorem fix_str (v : Nat) (hv : v < 4294967296) : strOfNums [(v : Int) % 256, (v : Int) / 256 % 256, (v : Int) / 65536 % 256, (v : Int) / 16777216] = bs (fixL v) := by
  have e (x : Nat) : UInt8.ofNat ((x : Int) % 256).toNat = UInt8.ofNat x := by
    apply UInt8.toNat_inj.1
    rw [UInt8.toNat_ofNat', UInt8.toNat_ofNat']
    omega
  have e1 := e v
  have e2 := e (v / 256)
  have e3 := e (v / 65536)
  have e4 := e (v / 16777216)
  have e5 : ((v / 16777216 : Nat) : Int) % 256 = (v : Int) / 16777216 := by omega
  rw [e5] at e4
  unfold strOfNums bs fixL
  simp only [List.map_cons, List.map_nil]
  rw [e1, e4]
  rw [show (v : Int) / 256 = ((v / 256 : Nat) : Int) by omega, e2, show (v : Int) / 65536 = ((v / 65536 : Nat) : Int) by omega, e3]

set_option maxRecDepth 100000 in
set_option maxHeartbeats 1000000 in
theorem fixed_any (v : Nat) (w : World) (hv : v < 4294967296) :
    Calls Try.prog 24 #[.int .u32 (v : Int)] w fun e w' => e = .returned (.string (bs (fixL v))) ∧ Below w.heap.size w w' := by
  have hconv := conv4 w
  have HF := Lib.hid (fix_str v hv)
  go_enter Try.func24, Try.ntmps24
  go_wp2
  go_ret
  exact ⟨by rw [← HF.out]; rfl, (Below.refl _ _).alloc (Nat.le_refl _) _⟩
set_option maxRecDepth 100000 in
set_option maxHeartbeats 1000000 in
theorem rfixed_any (v : Nat) (w : World) (hv : v < 4294967296) :
    Calls Try.prog 38 #[.int .u32 (v : Int)] w fun e w' => e = .returned (.string (bs (fixL v))) ∧ Below w.heap.size w w' := by
  have hconv := conv4 w
  have HF := Lib.hid (fix_str v hv)
  go_enter Try.func38, Try.ntmps38
  go_wp2
  go_ret
  exact ⟨by rw [← HF.out]; rfl, (Below.refl _ _).alloc (Nat.le_refl _) _⟩
theorem below_drewN {B : Nat} {a w : World} (h : Below B a w) (n : Nat) : Below B a (w.drewN n) := ⟨h.os, h.tape, h.output, h.size, h.block⟩
theorem sum4 (a b c d : UInt8) : (((a.toNat : Int) + 256 * ((b.toNat : Int) % 4294967296) + 65536 * ((c.toNat : Int) % 4294967296)) % 4294967296 + 16777216 * ((d.toNat : Int) % 4294967296) % 4294967296) % 4294967296 = ((unfix a b c d : Nat) : Int) := by
  have ha := byte_lt a; have hb := byte_lt b; have hc := byte_lt c; have hd := byte_lt d
  unfold unfix
  omega
theorem tup3 {x y : Int} (k : IntKind) (s : Value) (b : Value) (h : x = y) : Ending.returned (.tuple #[.int k x, s, b]) = .returned (.tuple #[.int k y, s, b]) := by rw [h]
theorem join_or (i x y : Nat) (hx : x % 2 ^ i = 0) (hy : y < 2 ^ i) : y ||| x = y + x := by rw [Nat.or_comm, nat_join i x y hx hy, Nat.add_comm]
theorem or4 (a b c d : UInt8) : bits .or .u32 (bits .or .u32 (bits .or .u32 ((a.toNat : Int) % 4294967296) ((b.toNat : Int) % 4294967296 * 256 % 4294967296)) ((c.toNat : Int) % 4294967296 * 65536 % 4294967296)) ((d.toNat : Int) % 4294967296 * 16777216 % 4294967296) = ((unfix a b c d : Nat) : Int) := by
  have ha := byte_lt a; have hb := byte_lt b; have hc := byte_lt c; have hd := byte_lt d
  rw [show (a.toNat : Int) % 4294967296 = ((a.toNat : Nat) : Int) by omega, show (b.toNat : Int) % 4294967296 * 256 % 4294967296 = ((256 * b.toNat : Nat) : Int) by omega,
    show (c.toNat : Int) % 4294967296 * 65536 % 4294967296 = ((65536 * c.toNat : Nat) : Int) by omega, show (d.toNat : Int) % 4294967296 * 16777216 % 4294967296 = ((16777216 * d.toNat : Nat) : Int) by omega]
  rw [u32_or_nat _ _ (by omega) (by omega), join_or 8 _ _ (by omega) (by omega), u32_or_nat _ _ (by omega) (by omega), join_or 16 _ _ (by omega) (by omega), u32_or_nat _ _ (by omega) (by omega), join_or 24 _ _ (by omega) (by omega)]
  rfl

set_option maxRecDepth 100000 in
set_option maxHeartbeats 1000000 in
theorem toFixed_some (s : ByteArray) (w : World) (h4 : 4 ≤ s.size) (hs : s.size ≤ maxLen) :
    Calls Try.prog 42 #[.string s] w fun e w' => e = .returned (.tuple #[.int .u32 ((unfix s[0] s[1] s[2] s[3] : Nat) : Int), .string (s.extract 4 s.size), .bool true]) ∧ Below w.heap.size w w' := by
  unfold maxLen at hs
  have i0 : 0 < s.size := by omega
  have i1 : 1 < s.size := by omega
  have i2 : 2 < s.size := by omega
  have i3 : 3 < s.size := by omega
  have j1 : (1 : Int) < (s.size : Int) := by omega
  have j2 : (2 : Int) < (s.size : Int) := by omega
  have j3 : (3 : Int) < (s.size : Int) := by omega
  have j4 : (4 : Int) ≤ (s.size : Int) := by omega
  have HV := Lib.hid (or4 s[0] s[1] s[2] s[3])
  go_enter Try.func42, Try.ntmps42
  go_wp2
  go_quiet (fail)
  rw [HV.out]
  go_wp2
  go_quiet (fail)
  go_wp2
  go_ret3
  exact ⟨rfl, below_drewN (below_drewN (Below.refl _ _) _) _⟩
set_option maxRecDepth 100000 in
set_option maxHeartbeats 1000000 in
theorem toFixed_none (s : ByteArray) (w : World) (h4 : s.size < 4) :
    Calls Try.prog 42 #[.string s] w fun e w' => e = .returned (.tuple #[.int .u32 0, .string ⟨#[]⟩, .bool false]) ∧ Below w.heap.size w w' := by
  go_enter Try.func42, Try.ntmps42
  go_wp2
  go_ret3
  exact ⟨rfl, (Below.refl _ _)⟩
end Go.Proofs.Ytfmnbabkdpiboaa.Fr
/- Numbers of as few bytes as there can be: what varSize and ToVar answer, for any text. -/
namespace Go.Proofs.Ytfmnbabkdpiboaa.Fr
open Go.RowKit

theorem getB (s : ByteArray) (k : Nat) (h : k < s.size) : s.data.toList[k]'(by simpa using h) = s[k] := rfl
theorem retI {k : IntKind} {a b : Int} (h : a = b) : Ending.returned (.int k a) = .returned (.int k b) := by rw [h]

set_option maxRecDepth 100000 in
set_option maxHeartbeats 1000000 in
theorem varSize_any (s : ByteArray) (w : World) (hs : s.size ≤ maxLen) :
    Calls Try.prog 75 #[.string s] w fun e w' => e = .returned (.int .i64 ((vsz 0 s.data.toList : Nat) : Int)) ∧ w = w' := by
  unfold maxLen at hs
  have hcase : ∃ m : Nat, m ≤ s.size ∧ m ≤ 10 ∧ Hid (s.size ≤ m ∨ 10 ≤ m) ∧ (((10 : Int) < (s.size : Int) ∧ Hid (Value.int .i64 10 = .int .i64 (m : Int))) ∨ ((s.size : Int) ≤ 10 ∧ Hid (Value.int .i64 (s.size : Int) = .int .i64 (m : Int)))) := by
    by_cases h : (10 : Int) < (s.size : Int)
    · exact ⟨10, by omega, Nat.le_refl _, .inr (Nat.le_refl _), .inl ⟨h, rfl⟩⟩
    · exact ⟨s.size, Nat.le_refl _, by omega, .inl (Nat.le_refl _), .inr ⟨by omega, rfl⟩⟩
  obtain ⟨m, hms, hm10, HM, hh⟩ := hcase
  rcases hh with ⟨hh, HR⟩ | ⟨hh, HR⟩
  all_goals
    go_enter Try.func75, Try.ntmps75
    go_wp2
    rw [HR.out]
    clear hh HR
    go_loop [10] (fun i => ∃ k : Nat, k ≤ m ∧ i = .int .i64 k ∧ Hid (vsz 0 s.data.toList = vsz k (s.data.toList.drop k))) (fun i => m - (intOf i).toNat)
    case atStart => exact ⟨0, Nat.zero_le _, rfl, rfl⟩
    case round =>
      obtain ⟨k, hk, rfl, HV⟩ := hrel
      by_cases hlt : k < m
      · have hks : k < s.size := by omega
        have hbl := byte_lt s[k]
        by_cases hb : 128 ≤ s[k].toNat
        · have HN : Hid (vsz 0 s.data.toList = vsz (k + 1) (s.data.toList.drop (k + 1))) := by
            show _ = _; rw [HV.out, vsz_step _ k (by simpa using hks) (by omega) (by rw [getB s k hks]; exact hb)]
          go_wp2
          go_round
          case rel => exact ⟨k + 1, by omega, by go_num, HN⟩
          case measure => simp [intOf]; omega
        · have HN : Hid (vsz 0 s.data.toList = if (0 < k ∧ s[k].toNat = 0) ∨ (k = 9 ∧ 1 < s[k].toNat) then 0 else k + 1) := by
            show _ = _; rw [HV.out, vsz_last _ k (by simpa using hks) (by omega) (by rw [getB s k hks]; omega), getB s k hks]
          go_wp2
          all_goals
            go_ret
            refine ⟨retI ?_, rfl⟩
            rw [HN.out]
            clear HN HV HM
            split <;> first | omega | (have hq : (((s[k].toNat : Int) == 0) = false ∧ (s[k].toNat : Int) ≤ 1) := (by assumption); have := hq.2; omega) | (have hq : (((s[k].toNat : Int) == 0) = true ∨ 1 < (s[k].toNat : Int)) := (by assumption); rcases hq with hq | hq <;> first | omega | (simp at hq; omega))
      · have HZ : Hid (vsz 0 s.data.toList = 0) := by
          show _ = _; rw [HV.out]; apply vsz_end; have := HM.out; have e : s.data.toList.length = s.size := by simp
          omega
        go_wp2
        go_ret
        exact ⟨by rw [HZ.out]; rfl, rfl⟩

theorem val_or (v b k : Nat) (hk : 7 * k + 7 ≤ 64 ∨ (7 * k + 1 ≤ 64 ∧ b % 128 < 2)) (hv : v < 128 ^ k) :
    bits .or .u64 (v : Int) (((b % 128 : Nat) : Int) * 2 ^ (7 * k) % 18446744073709551616) = ((v + b % 128 * 128 ^ k : Nat) : Int) := by
  have e : (128 : Nat) ^ k = 2 ^ (7 * k) := by rw [show (128 : Nat) = 2 ^ 7 from rfl, ← Nat.pow_mul]
  rw [e] at hv ⊢
  have hlt : b % 128 * 2 ^ (7 * k) < 18446744073709551616 := by
    rcases hk with hk | ⟨hk, hb2⟩
    · have h1 : b % 128 * 2 ^ (7 * k) < 128 * 2 ^ (7 * k) := (Nat.mul_lt_mul_right (Nat.two_pow_pos _)).2 (by omega)
      have h2 : 128 * 2 ^ (7 * k) = 2 ^ (7 * k + 7) := by rw [Nat.pow_add, Nat.mul_comm]
      have h3 : 2 ^ (7 * k + 7) ≤ 2 ^ 64 := Nat.pow_le_pow_right (by omega) hk
      omega
    · have h1 : b % 128 * 2 ^ (7 * k) < 2 * 2 ^ (7 * k) := (Nat.mul_lt_mul_right (Nat.two_pow_pos _)).2 hb2
      have h2 : 2 * 2 ^ (7 * k) = 2 ^ (7 * k + 1) := by rw [Nat.pow_add, Nat.mul_comm]
      have h3 : 2 ^ (7 * k + 1) ≤ 2 ^ 64 := Nat.pow_le_pow_right (by omega) hk
      omega
  have hv2 : v < 18446744073709551616 := by
    have h3 : 2 ^ (7 * k) ≤ 2 ^ 64 := Nat.pow_le_pow_right (by omega) (by omega)
    omega
  have ec : ((b % 128 : Nat) : Int) * 2 ^ (7 * k) % 18446744073709551616 = ((b % 128 * 2 ^ (7 * k) : Nat) : Int) := by
    have : ((b % 128 : Nat) : Int) * 2 ^ (7 * k) = ((b % 128 * 2 ^ (7 * k) : Nat) : Int) := by rw [Int.natCast_mul, Int.natCast_pow]; rfl
    rw [this]; omega
  rw [ec, u64_or_nat _ _ hv2 hlt, join_or (7 * k) _ _ (Nat.mul_mod_left _ _) hv]

theorem step_or (s : ByteArray) (k n : Nat) (hk : k < n) (hn : n ≤ 10) (hs : k < s.size) (hv : valL (s.data.toList.take n) < 18446744073709551616) :
    bits .or .u64 ((valL (s.data.toList.take k) : Nat) : Int) (IntKind.u64.wrap (IntKind.u64.wrap (bits .and .u8 (s[k].toNat : Int) 127) * 2 ^ (7 * k))) = ((valL (s.data.toList.take (k + 1)) : Nat) : Int) := by
  have hb := byte_lt s[k]
  have hlen : (s.data.toList.take k).length = k := by simp; omega
  have hvk := valL_lt (s.data.toList.take k)
  have hsn := valL_snoc (s.data.toList.take k) s[k]
  rw [hlen] at hvk hsn
  rw [take_snoc s k hs, hsn, show (127 : Int) = ((127 : Nat) : Int) from rfl, u8_and_nat _ _ hb (by omega), nat_mask7, IntKind.wrap_u64, IntKind.wrap_u64,
    show ((s[k].toNat % 128 : Nat) : Int) % 18446744073709551616 = ((s[k].toNat % 128 : Nat) : Int) by omega]
  apply val_or _ _ _ _ hvk
  by_cases h9 : k = 9
  · subst h9
    obtain rfl : n = 9 + 1 := by omega
    rw [take_snoc s 9 hs, hsn] at hv
    exact .inr ⟨by omega, by omega⟩
  · exact .inl (by omega)

set_option maxRecDepth 100000 in
set_option maxHeartbeats 1000000 in
theorem toVar_none (s : ByteArray) (w : World) (hs : s.size ≤ maxLen) (hz : vsz 0 s.data.toList = 0) :
    Calls Try.prog 68 #[.string s] w fun e w' => e = .returned (.tuple #[.int .u64 0, .string ⟨#[]⟩, .bool false]) ∧ Below w.heap.size w w' := by
  have C := Lib.hid (varSize_any s w hs)
  rw [hz] at C
  clear hz
  go_enter Try.func68, Try.ntmps68
  go_wp2_with fail
  refine C.out.mono ?_
  rintro e w' ⟨rfl, rfl⟩
  go_wp2
  go_ret3
  exact ⟨rfl, Below.refl _ _⟩
set_option maxRecDepth 100000 in
set_option maxHeartbeats 1000000 in
theorem toVar_some (s : ByteArray) (n : Nat) (w : World) (hs : s.size ≤ maxLen) (hn : vsz 0 s.data.toList = n) (h0 : n ≠ 0) :
    Calls Try.prog 68 #[.string s] w fun e w' => e = .returned (.tuple #[.int .u64 ((valL (s.data.toList.take n) : Nat) : Int), .string (s.extract n s.size), .bool true]) ∧ Below w.heap.size w w' := by
  have C := Lib.hid (varSize_any s w hs)
  rw [hn] at C
  unfold maxLen at hs
  obtain ⟨m, e, h1, h2, h3, h4, h5, _⟩ := vsz_some s.data.toList 0 (by omega) (by rw [hn]; exact h0)
  obtain rfl : n = m := by omega
  have hsn : n ≤ s.size := by have e : s.data.toList.length = s.size := (by simp); omega
  have hnz : ((n : Int) == 0) = false := by simp; omega
  have hn1 : (0 : Int) ≤ (n : Int) := by omega
  have hn2 : (n : Int) ≤ (s.size : Int) := by omega
  have H5 : Hid (valL (s.data.toList.take n) < 18446744073709551616) := h5
  clear hn e h4 h5 h0
  go_enter Try.func68, Try.ntmps68
  go_wp2_with fail
  refine C.out.mono ?_
  rintro e w' ⟨rfl, rfl⟩
  clear C
  go_wp2
  go_loop [6, 13] (fun v i => ∃ k : Nat, k ≤ n ∧ i = .int .i64 k ∧ v = .int .u64 ((valL (s.data.toList.take k) : Nat) : Int)) (fun _ i => n - (intOf i).toNat)
  case atStart => exact ⟨0, Nat.zero_le _, rfl, rfl⟩
  case round =>
    obtain ⟨k, hk, rfl, rfl⟩ := hrel
    by_cases hlt : k < n
    · have hks : k < s.size := by omega
      have hbl := byte_lt s[k]
      have HS := Lib.hid (step_or s k n hlt (by omega) hks H5.out)
      go_wp2
      go_round
      case rel => exact ⟨k + 1, by omega, by go_num, ret_u32 HS.out⟩
      case measure => simp [intOf]; omega
    · obtain rfl : k = n := by omega
      obtain ⟨v, hv⟩ : ∃ v, valL (s.data.toList.take k) = v := ⟨_, rfl⟩
      rw [hv]
      have HV := Lib.hid hv; clear hv
      go_wp2
      go_quiet (fail)
      go_wp2
      go_ret3
      exact ⟨tup3 _ _ _ (by rw [HV.out]), below_drewN (Below.refl _ _) _⟩
end Go.Proofs.Ytfmnbabkdpiboaa.Fr
/- Numbers written in as few bytes as there can be: what Var answers, and the document's own: the same. -/
namespace Go.Proofs.Ytfmnbabkdpiboaa.Fr
open Go.RowKit

/-- Bytes as cells, and a row of bytes that the call owns. -/
def cellsB (l : List UInt8) : List Value := l.map fun b => Value.int .u8 b.toNat
theorem cellsB_append (l m : List UInt8) : cellsB (l ++ m) = cellsB l ++ cellsB m := List.map_append ..
theorem cellsB_length (l : List UInt8) : (cellsB l).length = l.length := by simp [cellsB]
theorem _root_.Go.Proofs.Try.infoB : (Try.prog.info? 5).map (fun i => (i.zero, i.size, i.bytes)) = some (some (.int .u8 0), 1, 1) := by kernel_rfl
def BRow (B : Nat) (w : World) (v : Value) (l : List UInt8) : Prop := w.ownsRow B 5 1 v l.length (cellsB l)
theorem BRow.nil (B : Nat) (w : World) : BRow B w (.slice none 0 0) [] := World.ownsRow_nil ..
theorem strOf_map (l : List UInt8) : strOfNums (l.map fun b => (b.toNat : Int)) = bs l := by
  unfold strOfNums bs
  rw [List.map_map]
  congr 2
  conv => rhs; rw [← List.map_id l]
  apply List.map_congr_left
  intro b _
  simp
theorem BRow.text {B : Nat} {w : World} {v : Value} {l : List UInt8} (h : BRow B w v l) : (convert 44 9 v).run Try.prog w = .ok (.string (bs l)) w := by
  rcases h.2 with ⟨rfl, h0⟩ | ⟨g, cap, cur, rfl, _⟩
  · obtain rfl : l = [] := List.eq_nil_of_length_eq_zero h0
    exact run_convert_bytes_nil w 44 5 Try.underlying44 Try.underlying5 0 0 9 Try.underlying9
  · rw [← strOf_map]
    refine run_convert_bytes_arg w 44 5 Try.underlying44 Try.underlying5 g 0 l.length cap _ (by simp) ?_ 9 Try.underlying9
    intro i hi
    rw [Nat.zero_add, World.ownsRow.cellAt h i (by omega)]
    simp [cellsB, List.getD, hi]
theorem varL_ten (v : Nat) (h : v < 18446744073709551616) : (varL v).length ≤ 10 := by
  have e := rdV_varL v [] h
  have h1 := (rdV_some e).2.2.2.2.1
  rw [vsz_varL v [] 0 (by omega) h (fun hh => by omega)] at h1
  omega
theorem cell_one {w : World} {x : Value} (j : Nat) (u : Value) (h : [x][j]? = some u) : (w.alloc (.cells #[x] 5)).cell? ((⟨w.heap.size, 0, none⟩ : Addr).add j) = some u := by
  match j, h with
  | 0, h => simp at h; subst h; simp [Addr.add]
theorem one_byte (x : Nat) (h : x < 256) : [Value.int .u8 (x : Int)] = cellsB [UInt8.ofNat x] := by
  unfold cellsB; simp only [List.map_cons, List.map_nil]; rw [toNat_of x h]

theorem BRow.snoc {B : Nat} {w : World} {v : Value} {l : List UInt8} {x : Int} (b : Nat) (hb : b < 256) (e : x = (b : Int)) {n : Nat} (h : w.ownsRow B 5 1 v n (cellsB l ++ [Value.int .u8 x])) (hn : n = l.length + 1) : BRow B w v (l ++ [UInt8.ofNat b]) := by
  unfold BRow
  subst hn
  rw [List.length_append, cellsB_append, ← one_byte b hb, ← e]
  exact h
theorem or_128 : ∀ x : Fin 256, x.val ||| 128 = x.val % 128 + 128 := by decide +kernel
theorem or128 (y : Nat) : bits .or .u8 ((y : Int) % 256) 128 = ((y % 128 + 128 : Nat) : Int) := by
  rw [show (y : Int) % 256 = ((y % 256 : Nat) : Int) by omega, show (128 : Int) = ((128 : Nat) : Int) from rfl, u8_or_nat _ _ (by omega) (by omega), or_128 ⟨y % 256, by omega⟩]
  congr 1
  show y % 256 % 128 + 128 = _
  omega
theorem below_push {B : Nat} {w wr wb : World} {o : Obj} {v : Value} {n : Nat} {e : TypeId} {xs : List Value} (h : Below B w wr) (hB : B ≤ wr.heap.size) (ho : wr.ownsRow B e 1 v n xs) (hg : (wr.alloc o).grownBy wb v.ownBlock) : Below B w wb :=
  (h.alloc hB _).grown hg (by simp; omega) (fun g hg => (ho.lt g hg).1)

set_option maxRecDepth 100000 in
set_option maxHeartbeats 1000000 in
theorem rvar_any (v : Nat) (w : World) (hv : v < 18446744073709551616) :
    Calls Try.prog 67 #[.int .u64 (v : Int)] w fun e w' => e = .returned (.string (bs (varL v))) ∧ Below w.heap.size w w' := by
  obtain ⟨i0, hi, hz0, hz1, hz2⟩ := info_parts Try.infoB
  have HZ2 := Lib.hid hz2; clear hz2
  have HT := Lib.hid (varL_ten v hv)
  go_enter Try.func67, Try.ntmps67
  go_wp2
  go_loopw [3, 0] (fun b x wr => ∃ (y : Nat) (l : List UInt8), y < 18446744073709551616 ∧ x = .int .u64 (y : Int) ∧ Hid (varL v = l ++ varL y) ∧ Hid (BRow w.heap.size wr b l) ∧ Hid (Below w.heap.size w wr)) (fun _ x _ => (intOf x).toNat)
  case atStart => exact ⟨v, [], hv, rfl, rfl, BRow.nil _ _, Below.refl _ _⟩
  case round =>
    obtain ⟨y, l, hy, rfl, HV, HO, HB⟩ := hrel
    have hl10 : l.length + (varL y).length ≤ 10 := by have := HT.out; rw [HV.out, List.length_append] at this; exact this
    have hl1 := varL_len y
    have hbz := HB.out.size
    by_cases h128 : 128 ≤ y
    · have HN := Lib.hid (varL_hi y h128)
      go_wp2_with (at_builtin; refine wpList_append_own _ rfl _ _ 44 rfl w.heap.size 5 i0 _ 1 1 Try.underlying44 hi hz0 hz1 HZ2.out rfl (by decide) _ _ _ rfl (HO.out.alloc _) ⟨wr.heap.size, 0, none⟩ 1 1 [_] rfl rfl cell_one ?c2 ?c3 ?c4 ?c5 ?_)
      case c2 => intro u hu; simp at hu; subst hu; rfl
      case c3 => unfold maxLen; omega
      case c4 => omega
      case c5 => simp; omega
      intro v' wb hown' hgrow _
      have HO2 := Lib.hid (BRow.snoc (y % 128 + 128) (by omega) (by omega) hown' (by simp))
      have HB2 := Lib.hid (below_push HB.out hbz HO.out hgrow)
      have HV2 : Hid (varL v = l ++ [UInt8.ofNat (y % 128 + 128)] ++ varL (y / 128)) := by show _ = _; rw [HV.out, HN.out]; simp
      clear hown' hgrow
      go_wp2
      go_roundw
      case rel => exact ⟨y / 128, _, by omega, by go_num, HV2, HO2, HB2⟩
      case measure => simp [intOf]; omega
    · have HN := Lib.hid (varL_lo y (by omega))
      go_wp2_with (at_builtin; refine wpList_append_own _ rfl _ _ 44 rfl w.heap.size 5 i0 _ 1 1 Try.underlying44 hi hz0 hz1 HZ2.out rfl (by decide) _ _ _ rfl (HO.out.alloc _) ⟨wr.heap.size, 0, none⟩ 1 1 [_] rfl rfl cell_one ?d2 ?d3 ?d4 ?d5 ?_)
      case d2 => intro u hu; simp at hu; subst hu; rfl
      case d3 => unfold maxLen; omega
      case d4 => omega
      case d5 => simp; omega
      intro v' wb hown' hgrow _
      have HO2 := Lib.hid (BRow.snoc y (by omega) rfl hown' (by simp))
      have HB2 := Lib.hid (below_push HB.out hbz HO.out hgrow)
      have HV2 : Hid (varL v = l ++ [UInt8.ofNat y]) := by show _ = _; rw [HV.out, HN.out]
      clear hown' hgrow
      have hconv := HO2.out.text
      rw [← HV2.out] at hconv
      go_wp2
      go_ret
      exact ⟨rfl, HB2.out⟩

/-- The bytes of numbers, one behind the other. -/
def varsL (L : List Nat) : List UInt8 := L.flatMap varL
theorem varsL_take (L : List Nat) (k : Nat) (h : k < L.length) : varsL (L.take (k + 1)) = varsL (L.take k) ++ varL L[k] := by
  rw [List.take_succ_eq_append_getElem h]; unfold varsL; rw [List.flatMap_append]; simp only [List.flatMap_cons, List.flatMap_nil, List.append_nil]
theorem varsL_len (L : List Nat) (h : ∀ x ∈ L, x < 18446744073709551616) : (varsL L).length ≤ 10 * L.length := by
  induction L with
  | nil => simp [varsL]
  | cons x L ih =>
    have h1 := varL_ten x (h x (List.mem_cons_self ..))
    have h2 := ih (fun y hy => h y (List.mem_cons_of_mem _ hy))
    unfold varsL at h2 ⊢
    simp only [List.flatMap_cons, List.length_append, List.length_cons]
    omega
/-- A slice of numbers: nil, or so many cells. -/
def Nums (w : World) (v : Value) (L : List Nat) : Prop := (v = .slice none 0 0 ∧ L = []) ∨ ∃ b off c, v = .slice (some ⟨b, off, none⟩) L.length c ∧ b < w.heap.size ∧ ∀ j (h : j < L.length), w.cell? ⟨b, off + j, none⟩ = some (.int .u64 (L[j] : Int))

set_option maxRecDepth 100000 in
set_option maxHeartbeats 1000000 in
theorem var_nil (w : World) (ao : Option Addr) (c : Nat) :
    Calls Try.prog 51 #[.slice ao 0 c] w fun e w' => e = .returned (.string (bs [])) ∧ Below w.heap.size w w' := by
  have hconv := (BRow.nil w.heap.size w).text
  go_enter Try.func51, Try.ntmps51
  go_wp2
  go_loop [3, 8] (fun s i => i = .int .i64 0 ∧ s = .slice none 0 0) (fun _ _ => 0)
  case atStart => exact ⟨rfl, rfl⟩
  case round =>
    obtain ⟨rfl, rfl⟩ := hrel
    go_wp2
    go_ret
    exact ⟨rfl, Below.refl _ _⟩

set_option maxRecDepth 100000 in
set_option maxHeartbeats 2000000 in
theorem var_some (L : List Nat) (b off c : Nat) (w : World) (hn : L.length ≤ 1000000) (hL : ∀ x ∈ L, x < 18446744073709551616) (hbw : b < w.heap.size)
    (hc : ∀ j (h : j < L.length), w.cell? ⟨b, off + j, none⟩ = some (.int .u64 (L[j] : Int))) :
    Calls Try.prog 51 #[.slice (some ⟨b, off, none⟩) L.length c] w fun e w' => e = .returned (.string (bs (varsL L))) ∧ Below w.heap.size w w' := by
  obtain ⟨i0, hi, hz0, hz1, hz2⟩ := info_parts Try.infoB
  have HZ2 := Lib.hid hz2; clear hz2
  have HC := Lib.hid hc; clear hc
  have HL := Lib.hid hL; clear hL
  go_enter Try.func51, Try.ntmps51
  go_wp2
  go_loopw [3, 8] (fun s i wr => ∃ k : Nat, k ≤ L.length ∧ i = .int .i64 k ∧ Hid (BRow w.heap.size wr s (varsL (L.take k))) ∧ Hid (Below w.heap.size w wr)) (fun _ i _ => L.length - (intOf i).toNat)
  case atStart => exact ⟨0, Nat.zero_le _, rfl, BRow.nil _ _, Below.refl _ _⟩
  case round =>
    obtain ⟨k, hk, rfl, HO, HB⟩ := hrel
    have hbz := HB.out.size
    by_cases hlt : k < L.length
    · have hcell : wr.cell? ⟨b, off + k, none⟩ = some (.int .u64 (L[k] : Int)) := by rw [HB.out.cell (p := ⟨b, off + k, none⟩) hbw]; exact HC.out k hlt
      have hxl := HL.out L[k] (List.getElem_mem hlt)
      have hal : (varsL (L.take k)).length ≤ 10000000 := by
        have := varsL_len (L.take k) (fun x hx => HL.out x (List.mem_of_mem_take hx))
        rw [List.length_take] at this; omega
      have HJ := Lib.hid (varsL_take L k hlt)
      obtain ⟨x, hx⟩ : ∃ x, L[k] = x := ⟨_, rfl⟩
      rw [hx] at hcell hxl HJ
      clear hx
      obtain ⟨acc, ha⟩ : ∃ acc, varsL (L.take k) = acc := ⟨_, rfl⟩
      rw [ha] at hal HO HJ
      clear ha
      have HT := Lib.hid (varL_ten x hxl)
      go_wp2
      go_loopw [3, 5] (fun s v wq => ∃ (y : Nat) (l : List UInt8), y < 18446744073709551616 ∧ v = .int .u64 (y : Int) ∧ Hid (varL x = l ++ varL y) ∧ Hid (BRow w.heap.size wq s (acc ++ l)) ∧ Hid (Below w.heap.size w wq)) (fun _ v _ => (intOf v).toNat)
      case atStart => exact ⟨x, [], hxl, rfl, rfl, by rw [List.append_nil]; exact HO, HB⟩
      case round =>
        clear HO HB hcell hbz
        obtain ⟨y, l, hy, rfl, HV, HO, HB⟩ := hrel
        have hl10 : l.length + (varL y).length ≤ 10 := by have := HT.out; rw [HV.out, List.length_append] at this; exact this
        have hl1 := varL_len y
        have hbz := HB.out.size
        have hall : (acc ++ l).length ≤ 10000010 := by rw [List.length_append]; omega
        by_cases h128 : 128 ≤ y
        · have HN := Lib.hid (varL_hi y h128)
          go_wp2_with (at_builtin; refine wpList_append_own _ rfl _ _ 44 rfl w.heap.size 5 i0 _ 1 1 Try.underlying44 hi hz0 hz1 HZ2.out rfl (by decide) _ _ _ rfl (HO.out.alloc _) ⟨wr.heap.size, 0, none⟩ 1 1 [_] rfl rfl cell_one ?c2 ?c3 ?c4 ?c5 ?_)
          case c2 => intro u hu; simp at hu; subst hu; rfl
          case c3 => unfold maxLen; omega
          case c4 => omega
          case c5 => simp; omega
          intro v' wb hown' hgrow _
          have HO2 := Lib.hid (BRow.snoc (y % 128 + 128) (by omega) (or128 y) hown' (by simp))
          have HB2 := Lib.hid (below_push HB.out hbz HO.out hgrow)
          have HV2 : Hid (varL x = l ++ [UInt8.ofNat (y % 128 + 128)] ++ varL (y / 128)) := by show _ = _; rw [HV.out, HN.out]; simp
          clear hown' hgrow
          go_wp2
          go_roundw
          case rel => exact ⟨y / 128, _, by omega, by go_num, HV2, by rw [← List.append_assoc]; exact HO2, HB2⟩
          case measure => simp [intOf]; omega
        · have HN := Lib.hid (varL_lo y (by omega))
          go_wp2_with (at_builtin; refine wpList_append_own _ rfl _ _ 44 rfl w.heap.size 5 i0 _ 1 1 Try.underlying44 hi hz0 hz1 HZ2.out rfl (by decide) _ _ _ rfl (HO.out.alloc _) ⟨wr.heap.size, 0, none⟩ 1 1 [_] rfl rfl cell_one ?d2 ?d3 ?d4 ?d5 ?_)
          case d2 => intro u hu; simp at hu; subst hu; rfl
          case d3 => unfold maxLen; omega
          case d4 => omega
          case d5 => simp; omega
          intro v' wb hown' hgrow _
          have HO2 := Lib.hid (BRow.snoc y (by omega) rfl hown' (by simp))
          have HB2 := Lib.hid (below_push HB.out hbz HO.out hgrow)
          have HV2 : Hid (varL x = l ++ [UInt8.ofNat y]) := by show _ = _; rw [HV.out, HN.out]
          clear hown' hgrow
          go_wp2
          go_roundw
          case rel => exact ⟨k + 1, by omega, by go_num, by rw [HJ.out, HV2.out, ← List.append_assoc]; exact HO2, HB2⟩
          case measure => simp [intOf]; omega
    · have hconv := HO.out.text
      rw [List.take_of_length_le (by omega)] at hconv
      go_wp2
      go_ret
      exact ⟨rfl, HB.out⟩

theorem var_any (L : List Nat) (v : Value) (w : World) (hn : L.length ≤ 1000000) (hL : ∀ x ∈ L, x < 18446744073709551616) (h : Nums w v L) :
    Calls Try.prog 51 #[v] w fun e w' => e = .returned (.string (bs (varsL L))) ∧ Below w.heap.size w w' := by
  rcases h with ⟨rfl, rfl⟩ | ⟨b, off, c, rfl, hb, hc⟩
  · exact var_nil w none 0
  · exact var_some L b off c w hn hL hb hc
end Go.Proofs.Ytfmnbabkdpiboaa.Fr
/- Texts written with their lengths: what Text answers, and the document's own: the same. -/
namespace Go.Proofs.Ytfmnbabkdpiboaa.Fr
open Go.RowKit

/-- The bytes of texts with their lengths, one behind the other. -/
def textsL (L : List ByteArray) : List UInt8 := L.flatMap fun s => textL s.data.toList
theorem textsL_take (L : List ByteArray) (k : Nat) (h : k < L.length) : textsL (L.take (k + 1)) = textsL (L.take k) ++ textL L[k].data.toList := by
  rw [List.take_succ_eq_append_getElem h]; unfold textsL; rw [List.flatMap_append]; simp only [List.flatMap_cons, List.flatMap_nil, List.append_nil]
theorem textL_len (s : ByteArray) (h : s.size ≤ 1000000) : (textL s.data.toList).length ≤ 1000010 := by
  have h2 := varL_ten s.size (by omega)
  unfold textL
  have e : s.data.toList.length = s.size := by simp
  rw [List.length_append, e]; omega
theorem textsL_len (L : List ByteArray) (h : ∀ x ∈ L, x.size ≤ 1000000) : (textsL L).length ≤ 1000010 * L.length := by
  induction L with
  | nil => simp [textsL]
  | cons x L ih =>
    have h1 := textL_len x (h x (List.mem_cons_self ..))
    have h2 := ih (fun y hy => h y (List.mem_cons_of_mem _ hy))
    unfold textsL at h2 ⊢
    simp only [List.flatMap_cons, List.length_append, List.length_cons]
    omega
theorem strCells_bs (l : List UInt8) : Lib.strCells (bs l) = cellsB l := rfl
theorem bs_size (l : List UInt8) : (bs l).size = l.length := by simp [bs, ByteArray.size]
theorem bs_self (s : ByteArray) : bs s.data.toList = s := by unfold bs; simp
theorem own_below {w w' : World} {base : Nat} {e : TypeId} {size n : Nat} {v : Value} {xs : List Value} (h : w.ownsRow base e size v n xs) (hb : Below w.heap.size w w') : w'.ownsRow base e size v n xs := by
  refine ⟨h.1, ?_⟩
  rcases h.2 with h' | ⟨g, cap, cur, h1, h2, h3, h4⟩
  · exact .inl h'
  · exact .inr ⟨g, cap, cur, h1, h2, by rw [hb.block g (Array.getElem?_eq_some_iff.1 h3).1]; exact h3, h4⟩
theorem BRow.add {B : Nat} {w : World} {v : Value} {l m : List UInt8} {n : Nat} (h : w.ownsRow B 5 1 v n (cellsB l ++ cellsB m)) (hn : n = l.length + m.length) : BRow B w v (l ++ m) := by
  subst hn; unfold BRow; rw [List.length_append, cellsB_append]; exact h

/-- A number alone, as Var is handed it. -/
theorem var_one (x : Nat) (hx : x < 18446744073709551616) (w : World) :
    Calls Try.prog 51 #[.slice (some ⟨w.heap.size, 0, none⟩) 1 1] (w.alloc (.cells #[.int .u64 (x : Int)] 84)) fun e w' => e = .returned (.string (bs (varL x))) ∧ Below w.heap.size w w' := by
  have h := var_some [x] w.heap.size 0 1 (w.alloc (.cells #[.int .u64 (x : Int)] 84)) (by simp) (fun y hy => by simp at hy; omega) (by simp) (fun j hj => by
    obtain rfl : j = 0 := by simp at hj; omega
    rw [cell_at (heap_alloc_new ..)]; rfl)
  refine h.mono fun e w' ⟨he, hb⟩ => ⟨?_, ((Below.refl _ _).alloc (Nat.le_refl _) _).trans (hb.mono (by simp))⟩
  rw [he]
  simp [varsL]

set_option maxRecDepth 100000 in
set_option maxHeartbeats 1000000 in
theorem text_nil (w : World) (ao : Option Addr) (c : Nat) :
    Calls Try.prog 52 #[.slice ao 0 c] w fun e w' => e = .returned (.string (bs [])) ∧ Below w.heap.size w w' := by
  have hconv := (BRow.nil w.heap.size w).text
  go_enter Try.func52, Try.ntmps52
  go_wp2
  go_loop [3, 8] (fun s i => i = .int .i64 0 ∧ s = .slice none 0 0) (fun _ _ => 0)
  case atStart => exact ⟨rfl, rfl⟩
  case round =>
    obtain ⟨rfl, rfl⟩ := hrel
    go_wp2
    go_ret
    exact ⟨rfl, Below.refl _ _⟩

set_option maxRecDepth 100000 in
set_option maxHeartbeats 2000000 in
theorem text_some (L : List ByteArray) (b off c : Nat) (w : World) (hn : L.length ≤ 100000) (hL : ∀ x ∈ L, x.size ≤ 1000000) (hbw : b < w.heap.size)
    (hc : ∀ j (h : j < L.length), w.cell? ⟨b, off + j, none⟩ = some (.string L[j])) :
    Calls Try.prog 52 #[.slice (some ⟨b, off, none⟩) L.length c] w fun e w' => e = .returned (.string (bs (textsL L))) ∧ Below w.heap.size w w' := by
  obtain ⟨i0, hi, hz0, hz1, hz2⟩ := info_parts Try.infoB
  have HZ2 := Lib.hid hz2; clear hz2
  have HC := Lib.hid hc; clear hc
  have HL := Lib.hid hL; clear hL
  go_enter Try.func52, Try.ntmps52
  go_wp2
  go_loopw [3, 8] (fun s i wr => ∃ k : Nat, k ≤ L.length ∧ i = .int .i64 k ∧ Hid (BRow w.heap.size wr s (textsL (L.take k))) ∧ Hid (Below w.heap.size w wr)) (fun _ i _ => L.length - (intOf i).toNat)
  case atStart => exact ⟨0, Nat.zero_le _, rfl, BRow.nil _ _, Below.refl _ _⟩
  case round =>
    obtain ⟨k, hk, rfl, HO, HB⟩ := hrel
    have hbz := HB.out.size
    by_cases hlt : k < L.length
    · have hcell : wr.cell? ⟨b, off + k, none⟩ = some (.string L[k]) := by rw [HB.out.cell (p := ⟨b, off + k, none⟩) hbw]; exact HC.out k hlt
      have hxl := HL.out L[k] (List.getElem_mem hlt)
      have hal : (textsL (L.take k)).length ≤ 100001000000 := by
        have := textsL_len (L.take k) (fun x hx => HL.out x (List.mem_of_mem_take hx))
        rw [List.length_take] at this; omega
      have HJ := Lib.hid (textsL_take L k hlt)
      obtain ⟨x, hx⟩ : ∃ x, L[k] = x := ⟨_, rfl⟩
      rw [hx] at hcell hxl HJ
      clear hx
      obtain ⟨acc, ha⟩ : ∃ acc, textsL (L.take k) = acc := ⟨_, rfl⟩
      rw [ha] at hal HO HJ
      clear ha
      have hT := varL_ten x.size (by omega)
      have HE : Hid (textL x.data.toList = varL x.size ++ x.data.toList) := by show _ = _; unfold textL; simp
      have C := Lib.hid (var_one x.size (by omega) wr)
      go_wp2_with fail
      refine C.out.mono ?_
      rintro e w1 ⟨rfl, hb1⟩
      have HO1 := Lib.hid (own_below HO.out hb1)
      have HB1 : Hid (Below w.heap.size w w1) := HB.out.trans (hb1.mono hbz)
      have hz1' : wr.heap.size ≤ w1.heap.size := hb1.size
      clear hb1 C HO HB
      go_wp2_with (at_builtin; refine Lib.wpList_append_own_string _ rfl (.tmp 12) (.tmp 17) 44 9 rfl w.heap.size 5 i0 Try.underlying44 Try.underlying9 hi hz0 hz1 HZ2.out _ _ _ rfl HO1.out (bs (varL x.size)) rfl ?c3 ?c4 ?c5 ?_)
      case c3 => rw [bs_size]; unfold maxLen; omega
      case c4 => rw [bs_size]; omega
      case c5 => omega
      intro v2 w2 hown2 hgrow2 _
      rw [strCells_bs] at hown2
      have HO2 := Lib.hid (BRow.add hown2 (by rw [bs_size]))
      have HB2 : Hid (Below w.heap.size w w2) := HB1.out.grown hgrow2 (by omega) (fun g hg => (HO1.out.lt g hg).1)
      clear hown2 hgrow2 HO1 HB1
      have hz2' := HB2.out.size
      have hal2 : (acc ++ varL x.size).length ≤ 100001000010 := by rw [List.length_append]; omega
      go_wp2_with (at_builtin; refine Lib.wpList_append_own_string _ rfl (.tmp 19) (.tmp 20) 44 9 rfl w.heap.size 5 i0 Try.underlying44 Try.underlying9 hi hz0 hz1 HZ2.out _ _ _ rfl HO2.out x rfl ?d3 ?d4 ?d5 ?_)
      case d3 => unfold maxLen; omega
      case d4 => omega
      case d5 => omega
      intro v3 w3 hown3 hgrow3 _
      rw [show Lib.strCells x = cellsB x.data.toList from rfl] at hown3
      have HO3 := Lib.hid (BRow.add hown3 (by simp))
      have HB3 : Hid (Below w.heap.size w w3) := HB2.out.grown hgrow3 (by omega) (fun g hg => (HO2.out.lt g hg).1)
      clear hown3 hgrow3 HO2 HB2
      go_wp2
      go_roundw
      case rel => exact ⟨k + 1, by omega, by go_num, by rw [HJ.out, HE.out, ← List.append_assoc]; exact HO3, HB3⟩
      case measure => simp [intOf]; omega
    · have hconv := HO.out.text
      rw [List.take_of_length_le (by omega)] at hconv
      go_wp2
      go_ret
      exact ⟨rfl, HB.out⟩

theorem text_any (L : List ByteArray) (v : Value) (w : World) (hn : L.length ≤ 100000) (hL : ∀ x ∈ L, x.size ≤ 1000000) (h : Strs w v L) :
    Calls Try.prog 52 #[v] w fun e w' => e = .returned (.string (bs (textsL L))) ∧ Below w.heap.size w w' := by
  rcases h with ⟨rfl, rfl⟩ | ⟨b, off, c, rfl, hb, hc⟩
  · exact text_nil w none 0
  · exact text_some L b off c w hn hL hb hc

set_option maxRecDepth 100000 in
set_option maxHeartbeats 1000000 in
theorem rtext_any (s : ByteArray) (w : World) (hs : s.size ≤ 1000000) :
    Calls Try.prog 55 #[.string s] w fun e w' => e = .returned (.string (bs (textL s.data.toList))) ∧ Below w.heap.size w w' := by
  have C := Lib.hid (rvar_any s.size w (by omega))
  have HE : Hid (bs (varL s.size) ++ s = bs (textL s.data.toList)) := by
    show _ = _
    apply ByteArray.ext
    rw [ByteArray.data_append]
    unfold bs textL
    simp
  have hadd := fun (W : World) => run_string_add_sum (P := Try.prog) W (bs (varL s.size)) s (by have := varL_ten s.size (by omega); rw [bs_size]; omega)
  go_enter Try.func55, Try.ntmps55
  go_wp2_with fail
  refine C.out.mono ?_
  rintro e w1 ⟨rfl, hb1⟩
  have HB := Lib.hid hb1; clear hb1
  go_wp2
  go_ret
  exact ⟨by rw [← HE.out]; rfl, HB.out⟩
end Go.Proofs.Ytfmnbabkdpiboaa.Fr
/- Frames in plain lists: what is packed, what a head tells, what is unpacked; nothing of the program is walked here. -/
namespace Go.Proofs.Ytfmnbabkdpiboaa.Fr
open Go.RowKit

theorem bs_append (l m : List UInt8) : bs l ++ bs m = bs (l ++ m) := by
  apply ByteArray.ext
  rw [ByteArray.data_append]
  unfold bs
  simp
theorem bs_data (s : ByteArray) : bs s.data.toList = s := by
  unfold bs
  rw [Array.toArray_toList]
theorem data_bs (l : List UInt8) : (bs l).data.toList = l := rfl
theorem bs_len (l : List UInt8) : (bs l).size = l.length := rfl
theorem bs_eq {l m : List UInt8} (h : bs l = bs m) : l = m := congrArg (fun b : ByteArray => b.data.toList) h
theorem bs_ext (l : List UInt8) (a b : Nat) : (bs l).extract a b = bs ((l.take b).drop a) := by
  apply ByteArray.ext
  rw [ByteArray.data_extract]
  unfold bs
  apply Array.ext'
  rw [Array.toList_extract]
  simp only [List.extract_eq_take_drop, List.drop_take]
theorem str_same {a b : ByteArray} (h : a = b) : (a.toList == b.toList) = true := by rw [h]; simp
theorem str_diff {a b : ByteArray} (h : a ≠ b) : (a.toList == b.toList) = false := by
  rw [ByteArray.toList_eq, ByteArray.toList_eq, beq_eq_false_iff_ne]
  intro h2
  apply h
  apply ByteArray.ext
  exact Array.ext' h2
theorem str_len (s : ByteArray) : s.data.toList.length = s.size := by simp

/-- The number at a place. -/
def nmAt (l : List UInt8) (i : Nat) : Nat := unfix (l.getD i 0) (l.getD (i + 1) 0) (l.getD (i + 2) 0) (l.getD (i + 3) 0)
theorem nmAt_lt (l : List UInt8) (i : Nat) : nmAt l i < 4294967296 := by
  unfold nmAt unfix
  have h0 := byte_lt (l.getD i 0); have h1 := byte_lt (l.getD (i + 1) 0); have h2 := byte_lt (l.getD (i + 2) 0); have h3 := byte_lt (l.getD (i + 3) 0)
  omega
theorem getD_drop (l : List UInt8) (k i : Nat) : (l.drop k).getD i 0 = l.getD (k + i) 0 := by simp [List.getD]
theorem getD_take (l : List UInt8) (k i : Nat) (h : i < k) : (l.take k).getD i 0 = l.getD i 0 := by simp [List.getD, h]
theorem getD_right (A B : List UInt8) (i : Nat) : (A ++ B).getD (A.length + i) 0 = B.getD i 0 := by
  simp only [List.getD]; rw [List.getElem?_append_right (by omega), Nat.add_sub_cancel_left]
theorem getD_left (A B : List UInt8) (i : Nat) (h : i < A.length) : (A ++ B).getD i 0 = A.getD i 0 := by simp [List.getD, List.getElem?_append_left h]
theorem nmAt_drop (l : List UInt8) (k i : Nat) : nmAt (l.drop k) i = nmAt l (k + i) := by
  unfold nmAt; simp only [getD_drop, Nat.add_assoc]
theorem nmAt_take (l : List UInt8) (k i : Nat) (h : i + 4 ≤ k) : nmAt (l.take k) i = nmAt l i := by
  unfold nmAt
  rw [getD_take _ _ _ (by omega), getD_take _ _ _ (by omega), getD_take _ _ _ (by omega), getD_take _ _ _ (by omega)]
theorem nmAt_right (A B : List UInt8) (i : Nat) : nmAt (A ++ B) (A.length + i) = nmAt B i := by
  unfold nmAt; simp only [Nat.add_assoc, getD_right]
theorem nmAt_left (A B : List UInt8) (i : Nat) (h : i + 4 ≤ A.length) : nmAt (A ++ B) i = nmAt A i := by
  unfold nmAt
  rw [getD_left _ _ _ (by omega), getD_left _ _ _ (by omega), getD_left _ _ _ (by omega), getD_left _ _ _ (by omega)]
theorem nmAt_fix (v : Nat) (B : List UInt8) (h : v < 4294967296) : nmAt (fixL v ++ B) 0 = v := by
  rw [nmAt_left _ _ _ (by simp [fixL])]
  exact unfix_fixL v h
theorem fixL_len (v : Nat) : (fixL v).length = 4 := rfl
theorem nmAt_zero (k i : Nat) : nmAt (List.replicate k 0) i = 0 := by
  have e (j : Nat) : (List.replicate k (0 : UInt8)).getD j 0 = 0 := by
    simp only [List.getD, List.getElem?_replicate]; split <;> rfl
  unfold nmAt; rw [e, e, e, e]; rfl
theorem unfix_inj {a b c d a' b' c' d' : UInt8} (h : unfix a b c d = unfix a' b' c' d') : a = a' ∧ b = b' ∧ c = c' ∧ d = d' := by
  unfold unfix at h
  have h0 := byte_lt a; have h1 := byte_lt b; have h2 := byte_lt c; have h3 := byte_lt d
  have k0 := byte_lt a'; have k1 := byte_lt b'; have k2 := byte_lt c'; have k3 := byte_lt d'
  exact ⟨UInt8.toNat_inj.1 (by omega), UInt8.toNat_inj.1 (by omega), UInt8.toNat_inj.1 (by omega), UInt8.toNat_inj.1 (by omega)⟩
theorem four (l : List UInt8) (i : Nat) (h : i + 4 ≤ l.length) : (l.take (i + 4)).drop i = [l.getD i 0, l.getD (i + 1) 0, l.getD (i + 2) 0, l.getD (i + 3) 0] := by
  have e (j : Nat) (hj : j < l.length) : l.getD j 0 = l[j] := by simp [List.getD, hj]
  rw [e i (by omega), e (i + 1) (by omega), e (i + 2) (by omega), e (i + 3) (by omega), List.drop_take, show i + 4 - i = 4 by omega,
    List.drop_eq_getElem_cons (by omega), List.take_succ_cons, List.drop_eq_getElem_cons (by omega), List.take_succ_cons,
    List.drop_eq_getElem_cons (by omega), List.take_succ_cons, List.drop_eq_getElem_cons (by omega), List.take_succ_cons, List.take_zero]
/-- Four bytes are a number's just if they say it. -/
theorem four_iff (l : List UInt8) (i v : Nat) (h : i + 4 ≤ l.length) (hv : v < 4294967296) : (l.take (i + 4)).drop i = fixL v ↔ nmAt l i = v := by
  rw [four l i h]
  constructor
  · intro e
    unfold fixL at e
    simp only [List.cons.injEq, and_true] at e
    obtain ⟨h0, h1, h2, h3⟩ := e
    unfold nmAt
    rw [h0, h1, h2, h3]; exact unfix_fixL v hv
  · intro e
    have e2 := e.trans (unfix_fixL v hv).symm
    unfold nmAt at e2
    obtain ⟨h0, h1, h2, h3⟩ := unfix_inj e2
    unfold fixL
    rw [h0, h1, h2, h3]

def cdxt : List UInt8 := [67, 68, 88, 84]
def cdxe : List UInt8 := [67, 68, 88, 69]
/-- The numbers of the blocks of writes. -/
def numsL (l : List (Int × ByteArray)) : List UInt8 := l.flatMap fun x => fixL x.1.toNat
theorem numsL_len (l : List (Int × ByteArray)) : (numsL l).length = 4 * l.length := by
  induction l with
  | nil => rfl
  | cons x l ih => unfold numsL at *; rw [List.flatMap_cons, List.length_append, ih, fixL_len, List.length_cons]; omega
theorem numsL_snoc (l : List (Int × ByteArray)) (k : Nat) (h : k < l.length) : numsL (l.take (k + 1)) = numsL (l.take k) ++ fixL l[k].1.toNat := by
  rw [List.take_succ_eq_append_getElem h]; unfold numsL; rw [List.flatMap_append]; simp only [List.flatMap_cons, List.flatMap_nil, List.append_nil]
theorem numsL_at (l : List (Int × ByteArray)) (Z : List UInt8) (i : Nat) (h : i < l.length) (hb : ∀ x ∈ l, 0 ≤ x.1 ∧ x.1 < 4096) : nmAt (numsL l ++ Z) (4 * i) = l[i].1.toNat := by
  induction l generalizing i with
  | nil => simp at h
  | cons x l ih =>
    have e : numsL (x :: l) ++ Z = fixL x.1.toNat ++ (numsL l ++ Z) := by unfold numsL; rw [List.flatMap_cons, List.append_assoc]
    rw [e]
    have hx := hb x (List.mem_cons_self ..)
    cases i with
    | zero => exact nmAt_fix _ _ (by omega)
    | succ i =>
      have e2 : 4 * (i + 1) = (fixL x.1.toNat).length + 4 * i := by rw [fixL_len]; omega
      rw [e2, nmAt_right, ih i (by simpa using h) (fun y hy => hb y (List.mem_cons_of_mem _ hy))]; rfl
/-- A head, as far as it goes without its noughts, and without its sum and its end. -/
def begL (seq n : Nat) (l : List (Int × ByteArray)) : List UInt8 := cdxt ++ (fixL (seq % 4294967296) ++ (fixL (seq / 4294967296) ++ (fixL n ++ numsL l)))
theorem begL_len (seq n : Nat) (l : List (Int × ByteArray)) : (begL seq n l).length = 16 + 4 * l.length := by
  unfold begL; simp only [List.length_append, fixL_len, numsL_len, cdxt, List.length_cons, List.length_nil]; omega
theorem begL_snoc (seq n : Nat) (l : List (Int × ByteArray)) (k : Nat) (h : k < l.length) : begL seq n (l.take (k + 1)) = begL seq n (l.take k) ++ fixL l[k].1.toNat := by
  unfold begL; rw [numsL_snoc l k h]; simp only [List.append_assoc]
def headL (seq : Nat) (l : List (Int × ByteArray)) : List UInt8 := begL seq l.length l ++ List.replicate (248 - (16 + 4 * l.length)) 0
theorem headL_len (seq : Nat) (l : List (Int × ByteArray)) (h : l.length ≤ 48) : (headL seq l).length = 248 := by
  unfold headL; rw [List.length_append, begL_len, List.length_replicate]; omega
/-- The whole head. -/
def topL (seq : Nat) (l : List (Int × ByteArray)) : List UInt8 := headL seq l ++ (fixL (crcL (headL seq l ++ joinB (l.map (·.2)))) ++ cdxe)
theorem topL_len (seq : Nat) (l : List (Int × ByteArray)) (h : l.length ≤ 48) : (topL seq l).length = 256 := by
  unfold topL; rw [List.length_append, List.length_append, headL_len seq l h, fixL_len]; rfl
def packL (seq : Nat) (l : List (Int × ByteArray)) : List ByteArray := bs (topL seq l) :: l.map (·.2)
/-- Why a write, and writes, cannot be packed. -/
def chk1 (x : Int × ByteArray) : Nat := if x.1 < 0 ∨ 4096 ≤ x.1 then 2 else if x.2.size ≠ 256 then 3 else 0
def chkL : List (Int × ByteArray) → Nat
  | [] => 0
  | x :: l => if chk1 x = 0 then chkL l else chk1 x
def chk (l : List (Int × ByteArray)) : Nat := if l.length = 0 ∨ 48 < l.length then 6 else chkL l
def pk (seq : Nat) (l : List (Int × ByteArray)) : List ByteArray × Nat := if chk l = 0 then (packL seq l, 0) else ([], chk l)
def WrOk (x : Int × ByteArray) : Prop := 0 ≤ x.1 ∧ x.1 < 4096 ∧ x.2.size = 256
theorem chk1_ok (x : Int × ByteArray) : chk1 x = 0 ↔ WrOk x := by
  unfold chk1 WrOk
  by_cases h : x.1 < 0 ∨ 4096 ≤ x.1
  · rw [if_pos h]; constructor
    · intro h2; omega
    · intro h2; omega
  · rw [if_neg h]
    by_cases h2 : x.2.size ≠ 256
    · rw [if_pos h2]; constructor
      · intro h2; omega
      · intro h3; exact absurd h3.2.2 h2
    · rw [if_neg h2]; constructor
      · intro _; exact ⟨by omega, by omega, by omega⟩
      · intro _; rfl
theorem chkL_ok (l : List (Int × ByteArray)) : chkL l = 0 ↔ ∀ x ∈ l, WrOk x := by
  induction l with
  | nil => simp [chkL]
  | cons x l ih =>
    unfold chkL
    by_cases h : chk1 x = 0
    · rw [if_pos h, ih]
      constructor
      · intro h2 y hy
        rcases List.mem_cons.1 hy with rfl | hy
        · exact (chk1_ok _).1 h
        · exact h2 y hy
      · intro h2 y hy; exact h2 y (List.mem_cons_of_mem _ hy)
    · rw [if_neg h]
      constructor
      · intro h2; exact absurd h2 h
      · intro h2; exact absurd ((chk1_ok x).2 (h2 x (List.mem_cons_self ..))) h
theorem chkL_drop (l : List (Int × ByteArray)) (k : Nat) (h : k < l.length) (hk : chk1 l[k] = 0) : chkL (l.drop k) = chkL (l.drop (k + 1)) := by
  rw [List.drop_eq_getElem_cons h]; show (if chk1 l[k] = 0 then _ else _) = _; rw [if_pos hk]
theorem chkL_at (l : List (Int × ByteArray)) (k : Nat) (h : k < l.length) (hk : chk1 l[k] ≠ 0) : chkL (l.drop k) = chk1 l[k] := by
  rw [List.drop_eq_getElem_cons h]; show (if chk1 l[k] = 0 then _ else _) = _; rw [if_neg hk]
theorem chk_ok (l : List (Int × ByteArray)) : chk l = 0 ↔ 1 ≤ l.length ∧ l.length ≤ 48 ∧ ∀ x ∈ l, WrOk x := by
  unfold chk
  by_cases h : l.length = 0 ∨ 48 < l.length
  · rw [if_pos h]; constructor
    · intro h2; omega
    · intro h2; omega
  · rw [if_neg h, chkL_ok]; constructor
    · intro h2; exact ⟨by omega, by omega, h2⟩
    · intro h2; exact h2.2.2

/-- Are these the numbers of n blocks, and noughts behind them (m numbers in all)? -/
def takeB (n m : Nat) (q : List UInt8) : Bool := (List.range m).all fun i => if i < n then decide (nmAt q (4 * i) < 4096) else nmAt q (4 * i) == 0
theorem takeB_iff (n m : Nat) (q : List UInt8) : takeB n m q = true ↔ ∀ i, i < m → (i < n → nmAt q (4 * i) < 4096) ∧ (n ≤ i → nmAt q (4 * i) = 0) := by
  unfold takeB
  rw [List.all_eq_true]
  constructor
  · intro h i hi
    have := h i (List.mem_range.2 hi)
    by_cases hn : i < n
    · rw [if_pos hn] at this; exact ⟨fun _ => of_decide_eq_true this, fun h2 => by omega⟩
    · rw [if_neg hn] at this; exact ⟨fun h2 => absurd h2 hn, fun _ => by simpa using this⟩
  · intro h i hi
    have := h i (List.mem_range.1 hi)
    by_cases hn : i < n
    · rw [if_pos hn]; exact decide_eq_true (this.1 hn)
    · rw [if_neg hn]; simpa using this.2 (by omega)
def headB (l : List UInt8) : Bool := decide (l.length = 256) && decide (l.take 4 = cdxt) && decide (l.drop 252 = cdxe) && decide (1 ≤ nmAt l 12) && decide (nmAt l 12 ≤ 48) && takeB (nmAt l 12) 58 ((l.take 248).drop 16)
theorem headB_iff (l : List UInt8) : headB l = true ↔ l.length = 256 ∧ l.take 4 = cdxt ∧ l.drop 252 = cdxe ∧ 1 ≤ nmAt l 12 ∧ nmAt l 12 ≤ 48 ∧ takeB (nmAt l 12) 58 ((l.take 248).drop 16) = true := by
  unfold headB; simp only [Bool.and_eq_true, decide_eq_true_eq, and_assoc]
def seqOf (l : List UInt8) : Nat := nmAt l 4 + 4294967296 * nmAt l 8
def blocksOf (l : List UInt8) : List Int := (List.range (nmAt l 12)).map fun i => ((nmAt l (16 + 4 * i) : Nat) : Int)
theorem blocksOf_len (l : List UInt8) : (blocksOf l).length = nmAt l 12 := by simp [blocksOf]
def hd (s : ByteArray) : Nat × Nat × Bool := if headB s.data.toList = true then (seqOf s.data.toList, nmAt s.data.toList 12, true) else (0, 0, false)
/-- Is all that is there of the form? -/
def formB (s : ByteArray) (D : List ByteArray) : Bool := headB s.data.toList && decide (nmAt s.data.toList 12 ≤ D.length) && (D.take (nmAt s.data.toList 12)).all fun d => d.size == 256
theorem formB_iff (s : ByteArray) (D : List ByteArray) : formB s D = true ↔ headB s.data.toList = true ∧ nmAt s.data.toList 12 ≤ D.length ∧ ∀ d ∈ D.take (nmAt s.data.toList 12), d.size = 256 := by
  unfold formB; simp only [Bool.and_eq_true, decide_eq_true_eq, and_assoc, List.all_eq_true, beq_iff_eq]
def sumB (s : ByteArray) (D : List ByteArray) : Bool := nmAt s.data.toList 248 == crcL (s.data.toList.take 248 ++ joinB (D.take (nmAt s.data.toList 12)))
def unp : List ByteArray → Nat × List (Int × ByteArray) × Nat
  | [] => (0, [], 7)
  | s :: D => if formB s D = true then if sumB s D = true then (seqOf s.data.toList, (blocksOf s.data.toList).zip (D.take (nmAt s.data.toList 12)), 0) else (0, [], 8) else (0, [], 7)

theorem unp_cons (s : ByteArray) (D : List ByteArray) : unp (s :: D) = if formB s D = true then if sumB s D = true then (seqOf s.data.toList, (blocksOf s.data.toList).zip (D.take (nmAt s.data.toList 12)), 0) else (0, [], 8) else (0, [], 7) := rfl

/-- The noughts, byte by byte. -/
theorem take_bytes (n m : Nat) (q : List UInt8) (_hn : n ≤ m) (h : takeB n m q = true) (j : Nat) (h1 : 4 * n ≤ j) (h2 : j < 4 * m) : q.getD j 0 = 0 := by
  have h3 := ((takeB_iff n m q).1 h (j / 4) (by omega)).2 (by omega)
  unfold nmAt unfix at h3
  have e : j = 4 * (j / 4) + 0 ∨ j = 4 * (j / 4) + 1 ∨ j = 4 * (j / 4) + 2 ∨ j = 4 * (j / 4) + 3 := by omega
  have z (b : UInt8) (hb : b.toNat = 0) : b = 0 := UInt8.toNat_inj.1 hb
  rcases e with e | e | e | e <;> rw [e] <;> apply z
  · rw [Nat.add_zero]; omega
  · omega
  · omega
  · omega
theorem bytes_take (n m : Nat) (q : List UInt8) (h0 : ∀ i, i < n → nmAt q (4 * i) < 4096) (h : ∀ j, 4 * n ≤ j → j < 4 * m → q.getD j 0 = 0) : takeB n m q = true := by
  rw [takeB_iff]
  intro i hi
  refine ⟨h0 i, fun hn => ?_⟩
  unfold nmAt
  rw [h _ (by omega) (by omega), h _ (by omega) (by omega), h _ (by omega) (by omega), h _ (by omega) (by omega)]; rfl

/-- What was packed. -/
theorem top_parts (seq : Nat) (l : List (Int × ByteArray)) (hseq : seq < 18446744073709551616) (hl : 1 ≤ l.length) (hl2 : l.length ≤ 48) (hw : ∀ x ∈ l, WrOk x) :
    headB (topL seq l) = true ∧ nmAt (topL seq l) 12 = l.length ∧ seqOf (topL seq l) = seq ∧ blocksOf (topL seq l) = l.map (·.1) ∧ (topL seq l).take 248 = headL seq l ∧ nmAt (topL seq l) 248 = crcL (headL seq l ++ joinB (l.map (·.2))) := by
  have hlen := headL_len seq l hl2
  have hlen2 := topL_len seq l hl2
  have hb : ∀ x ∈ l, 0 ≤ x.1 ∧ x.1 < 4096 := fun x hx => ⟨(hw x hx).1, (hw x hx).2.1⟩
  have htake : (topL seq l).take 248 = headL seq l := by unfold topL; rw [← hlen, List.take_left]
  have hat (i : Nat) (h : i + 4 ≤ 248) : nmAt (topL seq l) i = nmAt (headL seq l) i := by unfold topL; exact nmAt_left _ _ _ (by omega)
  have hsum : nmAt (topL seq l) 248 = crcL (headL seq l ++ joinB (l.map (·.2))) := by
    have := nmAt_right (headL seq l) (fixL (crcL (headL seq l ++ joinB (l.map (·.2)))) ++ cdxe) 0
    rw [hlen] at this
    unfold topL
    rw [this]; exact nmAt_fix _ _ (crcL_lt _)
  have e : headL seq l = cdxt ++ (fixL (seq % 4294967296) ++ (fixL (seq / 4294967296) ++ (fixL l.length ++ (numsL l ++ List.replicate (248 - (16 + 4 * l.length)) 0)))) := by
    unfold headL begL; simp only [List.append_assoc]
  have e4 : nmAt (headL seq l) 4 = seq % 4294967296 := by rw [e]; exact (nmAt_right cdxt _ 0).trans (nmAt_fix _ _ (by omega))
  have e8 : nmAt (headL seq l) 8 = seq / 4294967296 := by
    rw [e]; exact (nmAt_right cdxt _ 4).trans ((nmAt_right (fixL _) _ 0).trans (nmAt_fix _ _ (by omega)))
  have e12 : nmAt (headL seq l) 12 = l.length := by
    rw [e]; exact (nmAt_right cdxt _ 8).trans ((nmAt_right (fixL _) _ 4).trans ((nmAt_right (fixL _) _ 0).trans (nmAt_fix _ _ (by omega))))
  have ei (i : Nat) : nmAt (headL seq l) (16 + i) = nmAt (numsL l ++ List.replicate (248 - (16 + 4 * l.length)) 0) i := by
    rw [e, show 16 + i = cdxt.length + ((fixL (seq % 4294967296)).length + ((fixL (seq / 4294967296)).length + ((fixL l.length).length + i))) by simp only [fixL_len, cdxt, List.length_cons, List.length_nil]; omega, nmAt_right, nmAt_right, nmAt_right, nmAt_right]
  have eb (i : Nat) (h : i < l.length) : nmAt (headL seq l) (16 + 4 * i) = l[i].1.toNat := by rw [ei]; exact numsL_at l _ i h hb
  have ez (i : Nat) (h : l.length ≤ i) : nmAt (headL seq l) (16 + 4 * i) = 0 := by
    rw [ei, show 4 * i = (numsL l).length + 4 * (i - l.length) by rw [numsL_len]; omega, nmAt_right]; exact nmAt_zero _ _
  refine ⟨?_, by rw [hat 12 (by omega), e12], ?_, ?_, htake, hsum⟩
  · rw [headB_iff, hat 12 (by omega), e12, htake]
    refine ⟨hlen2, ?_, ?_, hl, hl2, ?_⟩
    · have : (topL seq l).take 4 = ((topL seq l).take 248).take 4 := by rw [List.take_take]; rfl
      rw [this, htake, e]; rfl
    · have : topL seq l = (headL seq l ++ fixL (crcL (headL seq l ++ joinB (l.map (·.2))))) ++ cdxe := by unfold topL; rw [List.append_assoc]
      rw [this, show 252 = (headL seq l ++ fixL (crcL (headL seq l ++ joinB (l.map (·.2))))).length by rw [List.length_append, hlen, fixL_len], List.drop_left]
    · rw [takeB_iff]
      intro i hi
      rw [nmAt_drop]
      refine ⟨fun h => ?_, fun h => ez i h⟩
      rw [eb i h]
      have := hb l[i] (List.getElem_mem h)
      omega
  · unfold seqOf; rw [hat 4 (by omega), hat 8 (by omega), e4, e8]; omega
  · unfold blocksOf
    rw [hat 12 (by omega), e12]
    apply List.ext_getElem
    · simp
    · intro i h1 h2
      have h3 : i < l.length := by simpa using h2
      simp only [List.getElem_map, List.getElem_range]
      rw [hat _ (by omega), eb i h3]
      have := hb l[i] (List.getElem_mem h3)
      omega

/-- What was packed is unpacked as it was, whatever stands behind. -/
theorem unp_pack (seq : Nat) (l : List (Int × ByteArray)) (more : List ByteArray) (hseq : seq < 18446744073709551616) (hl : 1 ≤ l.length) (hl2 : l.length ≤ 48) (hw : ∀ x ∈ l, WrOk x) :
    unp (packL seq l ++ more) = (seq, l, 0) := by
  obtain ⟨h1, h2, h3, h4, h5, h6⟩ := top_parts seq l hseq hl hl2 hw
  have ht : (l.map (·.2) ++ more).take l.length = l.map (·.2) := by
    have e : l.length = (l.map (·.2)).length := by simp
    rw [e, List.take_left]
  have e0 : packL seq l ++ more = bs (topL seq l) :: (l.map (·.2) ++ more) := rfl
  rw [e0, unp_cons]
  rw [if_pos, if_pos]
  · rw [data_bs, h2, h3, h4, ht]
    refine Prod.ext rfl (Prod.ext ?_ rfl)
    show (l.map (·.1)).zip (l.map (·.2)) = l
    rw [List.zip_map']; simp
  · unfold sumB
    rw [data_bs, h2, h5, h6, ht]; simp
  · rw [formB_iff, data_bs, h2, ht]
    refine ⟨h1, by simp, fun d hd => ?_⟩
    obtain ⟨x, hx, rfl⟩ := List.mem_map.1 hd
    exact (hw x hx).2.2
theorem hd_pack (seq : Nat) (l : List (Int × ByteArray)) (hseq : seq < 18446744073709551616) (hl : 1 ≤ l.length) (hl2 : l.length ≤ 48) (hw : ∀ x ∈ l, WrOk x) :
    hd (bs (topL seq l)) = (seq, l.length, true) := by
  obtain ⟨h1, h2, h3, _⟩ := top_parts seq l hseq hl hl2 hw
  unfold hd
  rw [data_bs, if_pos h1, h2, h3]
/-- One that is cut short is none. -/
theorem unp_short (seq : Nat) (l : List (Int × ByteArray)) (j : Nat) (hseq : seq < 18446744073709551616) (hl : 1 ≤ l.length) (hl2 : l.length ≤ 48) (hw : ∀ x ∈ l, WrOk x) (hj : j ≤ l.length) :
    unp ((packL seq l).take j) = (0, [], 7) := by
  obtain ⟨h1, h2, h3, _⟩ := top_parts seq l hseq hl hl2 hw
  cases j with
  | zero => rfl
  | succ j =>
    show (if formB (bs (topL seq l)) ((l.map (·.2)).take j) = true then _ else _) = _
    rw [if_neg]
    rw [formB_iff, data_bs, h2]
    rintro ⟨_, h, _⟩
    rw [List.length_take, List.length_map] at h
    omega
end Go.Proofs.Ytfmnbabkdpiboaa.Fr
/- A text as bytes of one's own, and back. -/
namespace Go.Proofs.Ytfmnbabkdpiboaa.Fr
open Go.RowKit

/-- Bytes in a block of one's own. -/
def FRow (w : World) (g : Nat) (l : List UInt8) : Prop := ∀ j (h : j < l.length), w.cell? ⟨g, j, none⟩ = some (.int .u8 (l[j].toNat : Int)) ∧ w.frozen? ⟨g, j, none⟩ = false

theorem bytes_new (w : World) (s : ByteArray) : ∃ cap W2, (convert 9 44 (.string s)).run Try.prog w = .ok (.slice (some ⟨w.heap.size, 0, none⟩) s.size cap) W2 ∧ FRow W2 w.heap.size s.data.toList ∧ Below w.heap.size w W2 := by
  refine ⟨_, _, run_bytes_of_string w 9 44 5 s Try.underlying9 Try.underlying44 Try.underlying5, ?_, (Below.refl _ _).drew.alloc (Nat.le_refl _) _⟩
  intro j hj
  have hj' : j < s.size := by rw [str_len] at hj; exact hj
  have hsz : s.size ≤ (bytesRow s (grownCap w s.size 0 5)).size := by unfold bytesRow; rw [Array.size_append, Array.size_map]; exact Nat.le_add_right _ _
  refine ⟨?_, ?_⟩
  · rw [show w.heap.size = w.drew.heap.size from rfl, World.cell?_alloc_mark]
    unfold bytesRow
    rw [Array.getElem?_append_left (by rw [Array.size_map]; exact hj'), Array.getElem?_map, Array.getElem?_eq_getElem (show j < s.data.size from hj')]
    rfl
  · rw [show w.heap.size = w.drew.heap.size from rfl, World.frozen?_alloc_mark, decide_eq_false (by omega)]; rfl

theorem FRow.put {w : World} {g : Nat} {l : List UInt8} (h : FRow w g l) (i : Nat) (hi : i < l.length) (b : UInt8) : FRow (w.setCell ⟨g, i, none⟩ (.int .u8 (b.toNat : Int))) g (l.set i b) := by
  intro j hj
  have hj' : j < l.length := by simpa using hj
  refine ⟨?_, by rw [World.frozen?_setCell]; exact (h j hj').2⟩
  by_cases e : j = i
  · subst e
    rw [World.cell?_setCell_same' _ _ _ (by rw [(h j hj').1]; rfl)]
    simp
  · rw [World.cell?_setCell_other _ _ _ _ (by simp), (h j hj').1]
    simp [Ne.symm e]
theorem FRow.text {w : World} {g cap : Nat} {l : List UInt8} (h : FRow w g l) : (convert 44 9 (.slice (some ⟨g, 0, none⟩) l.length cap)).run Try.prog w = .ok (.string (bs l)) w :=
  run_convert_bytes_back w 44 9 5 ⟨g, 0, none⟩ cap l Try.underlying44 Try.underlying5 Try.underlying9 (fun j hj => by
    rw [show (⟨g, 0, none⟩ : Addr).add j = ⟨g, 0 + j, none⟩ by unfold Addr.add; split <;> simp_all, Nat.zero_add]
    exact (h j hj).1)
theorem FRow.drewN {w : World} {g : Nat} {l : List UInt8} (h : FRow w g l) (n : Nat) : FRow (w.drewN n) g l := h
theorem FRow.below {w w' : World} {g : Nat} {l : List UInt8} (h : FRow w g l) (hb : Below w.heap.size w w') (hg : g < w.heap.size) : FRow w' g l := fun j hj =>
  ⟨(hb.cell (p := ⟨g, j, none⟩) hg).trans (h j hj).1, (hb.frozen (p := ⟨g, j, none⟩) hg).trans (h j hj).2⟩
/-- A byte of a raw number. -/
def byteOf (t : Int) : UInt8 := UInt8.ofNat (t % 256).toNat
theorem byteOf_val (t : Int) : ((byteOf t).toNat : Int) = t % 256 := by
  unfold byteOf
  rw [UInt8.toNat_ofNat']
  omega
end Go.Proofs.Ytfmnbabkdpiboaa.Fr
