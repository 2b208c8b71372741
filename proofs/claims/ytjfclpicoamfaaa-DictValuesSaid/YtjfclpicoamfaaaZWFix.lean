/- Numbers of four bytes: what Fixed and ToFixed answer, and the document's own: the same. -/
import Derived.Test.YtjfclpicoamfaaaZWCrc
import Derived.Test.YtjfclpicoamfaaaZWMath
import Derived.Laws.BytesArg
import Derived.Deep.QuietTactic
import Derived.BigQuiet
import Derived.Lib.AppendStr
import Derived.Laws.IdiomStrings

namespace Go.Proofs.Ytjfclpicoamfaaa.Fr
open Go.RowKit
def bs (l : List UInt8) : ByteArray := ⟨l.toArray⟩
theorem cell_at {w : World} {b : Nat} {cs : Array Value} {t : TypeId} {s : Nat × Nat} {k : Nat} (h : w.heap[b]? = some (.cells cs t s)) : w.cell? ⟨b, k, none⟩ = cs[k]? := by
 simp [World.cell?, h]
theorem below_drewN {B : Nat} {a w : World} (h : Below B a w) (n : Nat) : Below B a (w.drewN n) := ⟨h.os, h.tape, h.output, h.size, h.block⟩
theorem tup3 {x y : Int} (k : IntKind) (s : Value) (b : Value) (h : x = y) : Ending.returned (.tuple #[.int k x, s, b]) = .returned (.tuple #[.int k y, s, b]) := by rw [h]
theorem join_or (i x y : Nat) (hx : x % 2 ^ i = 0) (hy : y < 2 ^ i) : y ||| x = y + x := by rw [Nat.or_comm, nat_join i x y hx hy, Nat.add_comm]
end Go.Proofs.Ytjfclpicoamfaaa.Fr
/- Numbers of as few bytes as there can be: what varSize and ToVar answer, for any text. -/
set_option maxRecDepth 100000
namespace Go.Proofs.Ytjfclpicoamfaaa.Fr
open Go.RowKit
theorem getB (s : ByteArray) (k : Nat) (h : k < s.size) : s.data.toList[k]'(by simpa using h) = s[k] := rfl
theorem retI {k : IntKind} {a b : Int} (h : a = b) : Ending.returned (.int k a) = .returned (.int k b) := by rw [h]
set_option maxHeartbeats 1000000 in
theorem varSize_any (s : ByteArray) (w : World) (hs : s.size <= maxLen) :
  Calls Try.prog 50 #[.string s] w fun e w' => e = .returned (.int .i64 ((vsz 0 s.data.toList : Nat) : Int)) /\ w = w' := by
 unfold maxLen at hs
 have hcase : ∃ m : Nat, m <= s.size /\ m <= 10 /\ Hid (s.size <= m \/ 10 <= m) /\ (((10 : Int) < (s.size : Int) /\ Hid (Value.int .i64 10 = .int .i64 (m : Int))) \/ ((s.size : Int) <= 10 /\ Hid (Value.int .i64 (s.size : Int) = .int .i64 (m : Int)))) := by
  by_cases h : (10 : Int) < (s.size : Int)
  ·exact ⟨10, by omega, Nat.le_refl _, .inr (Nat.le_refl _), .inl ⟨h, rfl⟩⟩
  ·exact ⟨s.size, Nat.le_refl _, by omega, .inl (Nat.le_refl _), .inr ⟨by omega, rfl⟩⟩
 obtain ⟨m, hms, hm10, HM, hh⟩ := hcase
 rcases hh with ⟨hh, HR⟩ | ⟨hh, HR⟩
 all_goals
  go_enter Try.func50, Try.ntmps50
  go_wp2
  rw [HR.out]
  clear hh HR
  go_loop [10] (fun i => ∃ k : Nat, k <= m /\ i = .int .i64 k /\ Hid (vsz 0 s.data.toList = vsz k (s.data.toList.drop k))) (fun i => m - (intOf i).toNat)
  case atStart => exact ⟨0, Nat.zero_le _, rfl, rfl⟩
  case round =>
   obtain ⟨k, hk, rfl, HV⟩ := hrel
   by_cases hlt : k < m
   ·have hks : k < s.size := by omega
    have hbl := byte_lt s[k]
    by_cases hb : 128 <= s[k].toNat
    ·have HN : Hid (vsz 0 s.data.toList = vsz (k + 1) (s.data.toList.drop (k + 1))) := by
      show _ = _; rw [HV.out, vsz_step _ k (by simpa using hks) (by omega) (by rw [getB s k hks]; exact hb)]
     go_wp2
     go_round
     case rel => exact ⟨k + 1, by omega, by go_num, HN⟩
     case measure => simp [intOf]; omega
    ·have HN : Hid (vsz 0 s.data.toList = if (0 < k /\ s[k].toNat = 0) \/ (k = 9 /\ 1 < s[k].toNat) then 0 else k + 1) := by
      show _ = _; rw [HV.out, vsz_last _ k (by simpa using hks) (by omega) (by rw [getB s k hks]; omega), getB s k hks]
     go_wp2
     all_goals
      go_ret
      refine ⟨retI ?_, rfl⟩
      rw [HN.out]
      clear HN HV HM
      split <;> first | omega | (have hq : (((s[k].toNat : Int) == 0) = false /\ (s[k].toNat : Int) <= 1) := (by assumption); have := hq.2; omega) | (have hq : (((s[k].toNat : Int) == 0) = true \/ 1 < (s[k].toNat : Int)) := (by assumption); rcases hq with hq | hq <;> first | omega | (simp at hq; omega))
   ·have HZ : Hid (vsz 0 s.data.toList = 0) := by
     show _ = _; rw [HV.out]; apply vsz_end; have := HM.out; have e : s.data.toList.length = s.size := by simp
     omega
    go_wp2
    go_ret
    exact ⟨by rw [HZ.out]; rfl, rfl⟩
theorem val_or (v b k : Nat) (hk : 7 * k + 7 <= 64 \/ (7 * k + 1 <= 64 /\ b % 128 < 2)) (hv : v < 128 ^ k) :
  bits .or .u64 (v : Int) (((b % 128 : Nat) : Int) * 2 ^ (7 * k) % 18446744073709551616) = ((v + b % 128 * 128 ^ k : Nat) : Int) := by
 have e : (128 : Nat) ^ k = 2 ^ (7 * k) := by rw [show (128 : Nat) = 2 ^ 7 from rfl, <- Nat.pow_mul]
 rw [e] at hv ⊢
 have hlt : b % 128 * 2 ^ (7 * k) < 18446744073709551616 := by
  rcases hk with hk | ⟨hk, hb2⟩
  ·have h1 : b % 128 * 2 ^ (7 * k) < 128 * 2 ^ (7 * k) := (Nat.mul_lt_mul_right (Nat.two_pow_pos _)).2 (by omega)
   have h2 : 128 * 2 ^ (7 * k) = 2 ^ (7 * k + 7) := by rw [Nat.pow_add, Nat.mul_comm]
   have h3 : 2 ^ (7 * k + 7) <= 2 ^ 64 := Nat.pow_le_pow_right (by omega) hk
   omega
  ·have h1 : b % 128 * 2 ^ (7 * k) < 2 * 2 ^ (7 * k) := (Nat.mul_lt_mul_right (Nat.two_pow_pos _)).2 hb2
   have h2 : 2 * 2 ^ (7 * k) = 2 ^ (7 * k + 1) := by rw [Nat.pow_add, Nat.mul_comm]
   have h3 : 2 ^ (7 * k + 1) <= 2 ^ 64 := Nat.pow_le_pow_right (by omega) hk
   omega
 have hv2 : v < 18446744073709551616 := by
  have h3 : 2 ^ (7 * k) <= 2 ^ 64 := Nat.pow_le_pow_right (by omega) (by omega)
  omega
 have ec : ((b % 128 : Nat) : Int) * 2 ^ (7 * k) % 18446744073709551616 = ((b % 128 * 2 ^ (7 * k) : Nat) : Int) := by
  have : ((b % 128 : Nat) : Int) * 2 ^ (7 * k) = ((b % 128 * 2 ^ (7 * k) : Nat) : Int) := by rw [Int.natCast_mul, Int.natCast_pow]; rfl
  rw [this]; omega
 rw [ec, u64_or_nat _ _ hv2 hlt, join_or (7 * k) _ _ (Nat.mul_mod_left _ _) hv]
theorem step_or (s : ByteArray) (k n : Nat) (hk : k < n) (hn : n <= 10) (hs : k < s.size) (hv : valL (s.data.toList.take n) < 18446744073709551616) :
  bits .or .u64 ((valL (s.data.toList.take k) : Nat) : Int) (IntKind.u64.wrap (IntKind.u64.wrap (bits .and .u8 (s[k].toNat : Int) 127) * 2 ^ (7 * k))) = ((valL (s.data.toList.take (k + 1)) : Nat) : Int) := by
 have hb := byte_lt s[k]
 have hlen : (s.data.toList.take k).length = k := by simp; omega
 have hvk := valL_lt (s.data.toList.take k)
 have hsn := valL_snoc (s.data.toList.take k) s[k]
 rw [hlen] at hvk hsn
 rw [take_snoc s k hs, hsn, show (127 : Int) = ((127 : Nat) : Int) from rfl, u8_and_nat _ _ hb (by omega), nat_mask7, IntKind.wrap_u64, IntKind.wrap_u64,
  show ((s[k].toNat % 128 : Nat) : Int) % 18446744073709551616 = ((s[k].toNat % 128 : Nat) : Int) by omega]
 apply val_or _ _ _ _ hvk
 by_cases h9 : k = 9
 ·subst h9
  obtain rfl : n = 9 + 1 := by omega
  rw [take_snoc s 9 hs, hsn] at hv
  exact .inr ⟨by omega, by omega⟩
 ·exact .inl (by omega)
set_option maxHeartbeats 1000000 in
theorem toVar_none (s : ByteArray) (w : World) (hs : s.size <= maxLen) (hz : vsz 0 s.data.toList = 0) :
  Calls Try.prog 46 #[.string s] w fun e w' => e = .returned (.tuple #[.int .u64 0, .string ⟨#[]⟩, .bool false]) /\ Below w.heap.size w w' := by
 have C := Lib.hid (varSize_any s w hs)
 rw [hz] at C
 clear hz
 go_enter Try.func46, Try.ntmps46
 go_wp2_with fail
 refine C.out.mono ?_
 rintro e w' ⟨rfl, rfl⟩
 go_wp2
 go_ret3
 exact ⟨rfl, Below.refl _ _⟩
set_option maxHeartbeats 1000000 in
theorem toVar_some (s : ByteArray) (n : Nat) (w : World) (hs : s.size <= maxLen) (hn : vsz 0 s.data.toList = n) (h0 : n ≠ 0) :
  Calls Try.prog 46 #[.string s] w fun e w' => e = .returned (.tuple #[.int .u64 ((valL (s.data.toList.take n) : Nat) : Int), .string (s.extract n s.size), .bool true]) /\ Below w.heap.size w w' := by
 have C := Lib.hid (varSize_any s w hs)
 rw [hn] at C
 unfold maxLen at hs
 obtain ⟨m, e, h1, h2, h3, h4, h5, _⟩ := vsz_some s.data.toList 0 (by omega) (by rw [hn]; exact h0)
 obtain rfl : n = m := by omega
 have hsn : n <= s.size := by have e : s.data.toList.length = s.size := (by simp); omega
 have hnz : ((n : Int) == 0) = false := by simp; omega
 have hn1 : (0 : Int) <= (n : Int) := by omega
 have hn2 : (n : Int) <= (s.size : Int) := by omega
 have H5 : Hid (valL (s.data.toList.take n) < 18446744073709551616) := h5
 clear hn e h4 h5 h0
 go_enter Try.func46, Try.ntmps46
 go_wp2_with fail
 refine C.out.mono ?_
 rintro e w' ⟨rfl, rfl⟩
 clear C
 go_wp2
 go_loop [6, 13] (fun v i => ∃ k : Nat, k <= n /\ i = .int .i64 k /\ v = .int .u64 ((valL (s.data.toList.take k) : Nat) : Int)) (fun _ i => n - (intOf i).toNat)
 case atStart => exact ⟨0, Nat.zero_le _, rfl, rfl⟩
 case round =>
  obtain ⟨k, hk, rfl, rfl⟩ := hrel
  by_cases hlt : k < n
  ·have hks : k < s.size := by omega
   have hbl := byte_lt s[k]
   have HS := Lib.hid (step_or s k n hlt (by omega) hks H5.out)
   go_wp2
   go_round
   case rel => exact ⟨k + 1, by omega, by go_num, ret_u32 HS.out⟩
   case measure => simp [intOf]; omega
  ·obtain rfl : k = n := by omega
   obtain ⟨v, hv⟩ : ∃ v, valL (s.data.toList.take k) = v := ⟨_, rfl⟩
   rw [hv]
   have HV := Lib.hid hv; clear hv
   go_wp2
   go_quiet (fail)
   go_wp2
   go_ret3
   exact ⟨tup3 _ _ _ (by rw [HV.out]), below_drewN (Below.refl _ _) _⟩
end Go.Proofs.Ytjfclpicoamfaaa.Fr
/- Numbers written in as few bytes as there can be: what Var answers, and the document's own: the same. -/
set_option maxRecDepth 100000
namespace Go.Proofs.Ytjfclpicoamfaaa.Fr
open Go.RowKit
def cellsB (l : List UInt8) : List Value := l.map fun b => Value.int .u8 b.toNat
theorem cellsB_append (l m : List UInt8) : cellsB (l ++ m) = cellsB l ++ cellsB m := List.map_append ..
theorem cellsB_length (l : List UInt8) : (cellsB l).length = l.length := by simp [cellsB]
theorem _root_.Go.Proofs.Try.infoB : (Try.prog.info? 5).map (fun i => (i.zero, i.size, i.bytes)) = some (some (.int .u8 0), 1, 1) := by kernel_rfl
def BRow (B : Nat) (w : World) (v : Value) (l : List UInt8) : Prop := w.ownsRow B 5 1 v l.length (cellsB l)
theorem BRow.nil (B : Nat) (w : World) : BRow B w (.slice none 0 0) [] := World.ownsRow_nil ..
theorem strOf_map (l : List UInt8) : strOfNums (l.map fun b => (b.toNat : Int)) = bs l := by
 unfold strOfNums bs
 rw [List.map_map]
 congr 2
 conv => rhs; rw [<- List.map_id l]
 apply List.map_congr_left
 intro b _
 simp
theorem BRow.text {B : Nat} {w : World} {v : Value} {l : List UInt8} (h : BRow B w v l) : (convert 38 9 v).run Try.prog w = .ok (.string (bs l)) w := by
 rcases h.2 with ⟨rfl, h0⟩ | ⟨g, cap, cur, rfl, _⟩
 ·obtain rfl : l = [] := List.eq_nil_of_length_eq_zero h0
  exact run_convert_bytes_nil w 38 5 Try.underlying38 Try.underlying5 0 0 9 Try.underlying9
 ·rw [<- strOf_map]
  refine run_convert_bytes_arg w 38 5 Try.underlying38 Try.underlying5 g 0 l.length cap _ (by simp) ?_ 9 Try.underlying9
  intro i hi
  rw [Nat.zero_add, World.ownsRow.cellAt h i (by omega)]
  simp [cellsB, List.getD, hi]
theorem varL_ten (v : Nat) (h : v < 18446744073709551616) : (varL v).length <= 10 := by
 have e := rdV_varL v [] h
 have h1 := (rdV_some e).2.2.2.2.1
 rw [vsz_varL v [] 0 (by omega) h (fun hh => by omega)] at h1
 omega
theorem cell_one {w : World} {x : Value} (j : Nat) (u : Value) (h : [x][j]? = some u) : (w.alloc (.cells #[x] 5)).cell? ((⟨w.heap.size, 0, none⟩ : Addr).add j) = some u := by
 match j, h with
 | 0, h => simp at h; subst h; simp [Addr.add]
theorem one_byte (x : Nat) (h : x < 256) : [Value.int .u8 (x : Int)] = cellsB [UInt8.ofNat x] := by
 unfold cellsB; simp only [List.map_cons, List.map_nil]; rw [toNat_of x h]
theorem BRow.snoc {B : Nat} {w : World} {v : Value} {l : List UInt8} {x : Int} (b : Nat) (hb : b < 256) (e : x = (b : Int)) {n : Nat} (h : w.ownsRow B 5 1 v n (cellsB l ++ [Value.int .u8 x])) (hn : n = l.length + 1) : BRow B w v (l ++ [UInt8.ofNat b]) := by
 unfold BRow
 subst hn
 rw [List.length_append, cellsB_append, <- one_byte b hb, <- e]
 exact h
theorem or_128 : ∀ x : Fin 256, x.val ||| 128 = x.val % 128 + 128 := by decide +kernel
theorem or128 (y : Nat) : bits .or .u8 ((y : Int) % 256) 128 = ((y % 128 + 128 : Nat) : Int) := by
 rw [show (y : Int) % 256 = ((y % 256 : Nat) : Int) by omega, show (128 : Int) = ((128 : Nat) : Int) from rfl, u8_or_nat _ _ (by omega) (by omega), or_128 ⟨y % 256, by omega⟩]
 congr 1
 show y % 256 % 128 + 128 = _
 omega
theorem below_push {B : Nat} {w wr wb : World} {o : Obj} {v : Value} {n : Nat} {e : TypeId} {xs : List Value} (h : Below B w wr) (hB : B <= wr.heap.size) (ho : wr.ownsRow B e 1 v n xs) (hg : (wr.alloc o).grownBy wb v.ownBlock) : Below B w wb :=
 (h.alloc hB _).grown hg (by simp; omega) (fun g hg => (ho.lt g hg).1)
set_option maxHeartbeats 1000000 in
theorem rvar_any (v : Nat) (w : World) (hv : v < 18446744073709551616) :
  Calls Try.prog 42 #[.int .u64 (v : Int)] w fun e w' => e = .returned (.string (bs (varL v))) /\ Below w.heap.size w w' := by
 obtain ⟨i0, hi, hz0, hz1, hz2⟩ := info_parts Try.infoB
 have HZ2 := Lib.hid hz2; clear hz2
 have HT := Lib.hid (varL_ten v hv)
 go_enter Try.func42, Try.ntmps42
 go_wp2
 go_loopw [3, 0] (fun b x wr => ∃ (y : Nat) (l : List UInt8), y < 18446744073709551616 /\ x = .int .u64 (y : Int) /\ Hid (varL v = l ++ varL y) /\ Hid (BRow w.heap.size wr b l) /\ Hid (Below w.heap.size w wr)) (fun _ x _ => (intOf x).toNat)
 case atStart => exact ⟨v, [], hv, rfl, rfl, BRow.nil _ _, Below.refl _ _⟩
 case round =>
  obtain ⟨y, l, hy, rfl, HV, HO, HB⟩ := hrel
  have hl10 : l.length + (varL y).length <= 10 := by have := HT.out; rw [HV.out, List.length_append] at this; exact this
  have hl1 := varL_len y
  have hbz := HB.out.size
  by_cases h128 : 128 <= y
  ·have HN := Lib.hid (varL_hi y h128)
   go_wp2_with (at_builtin; refine wpList_append_own _ rfl _ _ 38 rfl w.heap.size 5 i0 _ 1 1 Try.underlying38 hi hz0 hz1 HZ2.out rfl (by decide) _ _ _ rfl (HO.out.alloc _) ⟨wr.heap.size, 0, none⟩ 1 1 [_] rfl rfl cell_one ?c2 ?c3 ?c4 ?c5 ?_)
   case c2 => intro u hu; simp at hu; subst hu; rfl
   case c3 => unfold maxLen; omega
   case c4 => omega
   case c5 => simp; omega
   intro v' wb hown' hgrow _
   have HO2 := Lib.hid (BRow.snoc (y % 128 + 128) (by omega) (by omega) hown' (by simp))
   have HB2 := Lib.hid (below_push HB.out hbz HO.out hgrow)
   have HV2 : Hid (varL v = l ++ [UInt8.ofNat (y % 128 + 128)] ++ varL (y / 128)) := by show _ = _; rw [HV.out, HN.out]; simp
   clear hown' hgrow
   go_wp2
   go_roundw
   case rel => exact ⟨y / 128, _, by omega, by go_num, HV2, HO2, HB2⟩
   case measure => simp [intOf]; omega
  ·have HN := Lib.hid (varL_lo y (by omega))
   go_wp2_with (at_builtin; refine wpList_append_own _ rfl _ _ 38 rfl w.heap.size 5 i0 _ 1 1 Try.underlying38 hi hz0 hz1 HZ2.out rfl (by decide) _ _ _ rfl (HO.out.alloc _) ⟨wr.heap.size, 0, none⟩ 1 1 [_] rfl rfl cell_one ?d2 ?d3 ?d4 ?d5 ?_)
   case d2 => intro u hu; simp at hu; subst hu; rfl
   case d3 => unfold maxLen; omega
   case d4 => omega
   case d5 => simp; omega
   intro v' wb hown' hgrow _
   have HO2 := Lib.hid (BRow.snoc y (by omega) rfl hown' (by simp))
   have HB2 := Lib.hid (below_push HB.out hbz HO.out hgrow)
   have HV2 : Hid (varL v = l ++ [UInt8.ofNat y]) := by show _ = _; rw [HV.out, HN.out]
   clear hown' hgrow
   have hconv := HO2.out.text
   rw [<- HV2.out] at hconv
   go_wp2
   go_ret
   exact ⟨rfl, HB2.out⟩
def varsL (L : List Nat) : List UInt8 := L.flatMap varL
theorem varsL_take (L : List Nat) (k : Nat) (h : k < L.length) : varsL (L.take (k + 1)) = varsL (L.take k) ++ varL L[k] := by
 rw [List.take_succ_eq_append_getElem h]; unfold varsL; rw [List.flatMap_append]; simp only [List.flatMap_cons, List.flatMap_nil, List.append_nil]
theorem varsL_len (L : List Nat) (h : ∀ x ∈ L, x < 18446744073709551616) : (varsL L).length <= 10 * L.length := by
 induction L with
 | nil => simp [varsL]
 | cons x L ih =>
  have h1 := varL_ten x (h x (List.mem_cons_self ..))
  have h2 := ih (fun y hy => h y (List.mem_cons_of_mem _ hy))
  unfold varsL at h2 ⊢
  simp only [List.flatMap_cons, List.length_append, List.length_cons]
  omega
def Nums (w : World) (v : Value) (L : List Nat) : Prop := (v = .slice none 0 0 /\ L = []) \/ ∃ b off c, v = .slice (some ⟨b, off, none⟩) L.length c /\ b < w.heap.size /\ ∀ j (h : j < L.length), w.cell? ⟨b, off + j, none⟩ = some (.int .u64 (L[j] : Int))
set_option maxHeartbeats 1000000 in
theorem var_nil (w : World) (ao : Option Addr) (c : Nat) :
  Calls Try.prog 26 #[.slice ao 0 c] w fun e w' => e = .returned (.string (bs [])) /\ Below w.heap.size w w' := by
 have hconv := (BRow.nil w.heap.size w).text
 go_enter Try.func26, Try.ntmps26
 go_wp2
 go_loop [3, 8] (fun s i => i = .int .i64 0 /\ s = .slice none 0 0) (fun _ _ => 0)
 case atStart => exact ⟨rfl, rfl⟩
 case round =>
  obtain ⟨rfl, rfl⟩ := hrel
  go_wp2
  go_ret
  exact ⟨rfl, Below.refl _ _⟩
set_option maxHeartbeats 2000000 in
theorem var_some (L : List Nat) (b off c : Nat) (w : World) (hn : L.length <= 1000000) (hL : ∀ x ∈ L, x < 18446744073709551616) (hbw : b < w.heap.size)
  (hc : ∀ j (h : j < L.length), w.cell? ⟨b, off + j, none⟩ = some (.int .u64 (L[j] : Int))) :
  Calls Try.prog 26 #[.slice (some ⟨b, off, none⟩) L.length c] w fun e w' => e = .returned (.string (bs (varsL L))) /\ Below w.heap.size w w' := by
 obtain ⟨i0, hi, hz0, hz1, hz2⟩ := info_parts Try.infoB
 have HZ2 := Lib.hid hz2; clear hz2
 have HC := Lib.hid hc; clear hc
 have HL := Lib.hid hL; clear hL
 go_enter Try.func26, Try.ntmps26
 go_wp2
 go_loopw [3, 8] (fun s i wr => ∃ k : Nat, k <= L.length /\ i = .int .i64 k /\ Hid (BRow w.heap.size wr s (varsL (L.take k))) /\ Hid (Below w.heap.size w wr)) (fun _ i _ => L.length - (intOf i).toNat)
 case atStart => exact ⟨0, Nat.zero_le _, rfl, BRow.nil _ _, Below.refl _ _⟩
 case round =>
  obtain ⟨k, hk, rfl, HO, HB⟩ := hrel
  have hbz := HB.out.size
  by_cases hlt : k < L.length
  ·have hcell : wr.cell? ⟨b, off + k, none⟩ = some (.int .u64 (L[k] : Int)) := by rw [HB.out.cell (p := ⟨b, off + k, none⟩) hbw]; exact HC.out k hlt
   have hxl := HL.out L[k] (List.getElem_mem hlt)
   have hal : (varsL (L.take k)).length <= 10000000 := by
    have := varsL_len (L.take k) (fun x hx => HL.out x (List.mem_of_mem_take hx))
    rw [List.length_take] at this; omega
   have HJ := Lib.hid (varsL_take L k hlt)
   obtain ⟨x, hx⟩ : ∃ x, L[k] = x := ⟨_, rfl⟩
   rw [hx] at hcell hxl HJ
   clear hx
   obtain ⟨acc, ha⟩ : ∃ acc, varsL (L.take k) = acc := ⟨_, rfl⟩
   rw [ha] at hal HO HJ
   clear ha
   have HT := Lib.hid (varL_ten x hxl)
   go_wp2
   go_loopw [3, 5] (fun s v wq => ∃ (y : Nat) (l : List UInt8), y < 18446744073709551616 /\ v = .int .u64 (y : Int) /\ Hid (varL x = l ++ varL y) /\ Hid (BRow w.heap.size wq s (acc ++ l)) /\ Hid (Below w.heap.size w wq)) (fun _ v _ => (intOf v).toNat)
   case atStart => exact ⟨x, [], hxl, rfl, rfl, by rw [List.append_nil]; exact HO, HB⟩
   case round =>
    clear HO HB hcell hbz
    obtain ⟨y, l, hy, rfl, HV, HO, HB⟩ := hrel
    have hl10 : l.length + (varL y).length <= 10 := by have := HT.out; rw [HV.out, List.length_append] at this; exact this
    have hl1 := varL_len y
    have hbz := HB.out.size
    have hall : (acc ++ l).length <= 10000010 := by rw [List.length_append]; omega
    by_cases h128 : 128 <= y
    ·have HN := Lib.hid (varL_hi y h128)
     go_wp2_with (at_builtin; refine wpList_append_own _ rfl _ _ 38 rfl w.heap.size 5 i0 _ 1 1 Try.underlying38 hi hz0 hz1 HZ2.out rfl (by decide) _ _ _ rfl (HO.out.alloc _) ⟨wr.heap.size, 0, none⟩ 1 1 [_] rfl rfl cell_one ?c2 ?c3 ?c4 ?c5 ?_)
     case c2 => intro u hu; simp at hu; subst hu; rfl
     case c3 => unfold maxLen; omega
     case c4 => omega
     case c5 => simp; omega
     intro v' wb hown' hgrow _
     have HO2 := Lib.hid (BRow.snoc (y % 128 + 128) (by omega) (or128 y) hown' (by simp))
     have HB2 := Lib.hid (below_push HB.out hbz HO.out hgrow)
     have HV2 : Hid (varL x = l ++ [UInt8.ofNat (y % 128 + 128)] ++ varL (y / 128)) := by show _ = _; rw [HV.out, HN.out]; simp
     clear hown' hgrow
     go_wp2
     go_roundw
     case rel => exact ⟨y / 128, _, by omega, by go_num, HV2, by rw [<- List.append_assoc]; exact HO2, HB2⟩
     case measure => simp [intOf]; omega
    ·have HN := Lib.hid (varL_lo y (by omega))
     go_wp2_with (at_builtin; refine wpList_append_own _ rfl _ _ 38 rfl w.heap.size 5 i0 _ 1 1 Try.underlying38 hi hz0 hz1 HZ2.out rfl (by decide) _ _ _ rfl (HO.out.alloc _) ⟨wr.heap.size, 0, none⟩ 1 1 [_] rfl rfl cell_one ?d2 ?d3 ?d4 ?d5 ?_)
     case d2 => intro u hu; simp at hu; subst hu; rfl
     case d3 => unfold maxLen; omega
     case d4 => omega
     case d5 => simp; omega
     intro v' wb hown' hgrow _
     have HO2 := Lib.hid (BRow.snoc y (by omega) rfl hown' (by simp))
     have HB2 := Lib.hid (below_push HB.out hbz HO.out hgrow)
     have HV2 : Hid (varL x = l ++ [UInt8.ofNat y]) := by show _ = _; rw [HV.out, HN.out]
     clear hown' hgrow
     go_wp2
     go_roundw
     case rel => exact ⟨k + 1, by omega, by go_num, by rw [HJ.out, HV2.out, <- List.append_assoc]; exact HO2, HB2⟩
     case measure => simp [intOf]; omega
  ·have hconv := HO.out.text
   rw [List.take_of_length_le (by omega)] at hconv
   go_wp2
   go_ret
   exact ⟨rfl, HB.out⟩
theorem var_any (L : List Nat) (v : Value) (w : World) (hn : L.length <= 1000000) (hL : ∀ x ∈ L, x < 18446744073709551616) (h : Nums w v L) :
  Calls Try.prog 26 #[v] w fun e w' => e = .returned (.string (bs (varsL L))) /\ Below w.heap.size w w' := by
 rcases h with ⟨rfl, rfl⟩ | ⟨b, off, c, rfl, hb, hc⟩
 ·exact var_nil w none 0
 ·exact var_some L b off c w hn hL hb hc
end Go.Proofs.Ytjfclpicoamfaaa.Fr
/- Texts written with their lengths: what Text answers, and the document's own: the same. -/
set_option maxRecDepth 100000
namespace Go.Proofs.Ytjfclpicoamfaaa.Fr
open Go.RowKit
def textsL (L : List ByteArray) : List UInt8 := L.flatMap fun s => textL s.data.toList
theorem textsL_take (L : List ByteArray) (k : Nat) (h : k < L.length) : textsL (L.take (k + 1)) = textsL (L.take k) ++ textL L[k].data.toList := by
 rw [List.take_succ_eq_append_getElem h]; unfold textsL; rw [List.flatMap_append]; simp only [List.flatMap_cons, List.flatMap_nil, List.append_nil]
theorem textL_len (s : ByteArray) (h : s.size <= 1000000) : (textL s.data.toList).length <= 1000010 := by
 have h2 := varL_ten s.size (by omega)
 unfold textL
 have e : s.data.toList.length = s.size := by simp
 rw [List.length_append, e]; omega
theorem textsL_len (L : List ByteArray) (h : ∀ x ∈ L, x.size <= 1000000) : (textsL L).length <= 1000010 * L.length := by
 induction L with
 | nil => simp [textsL]
 | cons x L ih =>
  have h1 := textL_len x (h x (List.mem_cons_self ..))
  have h2 := ih (fun y hy => h y (List.mem_cons_of_mem _ hy))
  unfold textsL at h2 ⊢
  simp only [List.flatMap_cons, List.length_append, List.length_cons]
  omega
theorem strCells_bs (l : List UInt8) : Lib.strCells (bs l) = cellsB l := rfl
theorem bs_size (l : List UInt8) : (bs l).size = l.length := by simp [bs, ByteArray.size]
theorem own_below {w w' : World} {base : Nat} {e : TypeId} {size n : Nat} {v : Value} {xs : List Value} (h : w.ownsRow base e size v n xs) (hb : Below w.heap.size w w') : w'.ownsRow base e size v n xs := by
 refine ⟨h.1, ?_⟩
 rcases h.2 with h' | ⟨g, cap, cur, h1, h2, h3, h4⟩
 ·exact .inl h'
 ·exact .inr ⟨g, cap, cur, h1, h2, by rw [hb.block g (Array.getElem?_eq_some_iff.1 h3).1]; exact h3, h4⟩
theorem BRow.add {B : Nat} {w : World} {v : Value} {l m : List UInt8} {n : Nat} (h : w.ownsRow B 5 1 v n (cellsB l ++ cellsB m)) (hn : n = l.length + m.length) : BRow B w v (l ++ m) := by
 subst hn; unfold BRow; rw [List.length_append, cellsB_append]; exact h
theorem var_one (x : Nat) (hx : x < 18446744073709551616) (w : World) :
  Calls Try.prog 26 #[.slice (some ⟨w.heap.size, 0, none⟩) 1 1] (w.alloc (.cells #[.int .u64 (x : Int)] 59)) fun e w' => e = .returned (.string (bs (varL x))) /\ Below w.heap.size w w' := by
 have h := var_some [x] w.heap.size 0 1 (w.alloc (.cells #[.int .u64 (x : Int)] 59)) (by simp) (fun y hy => by simp at hy; omega) (by simp) (fun j hj => by
  obtain rfl : j = 0 := by simp at hj; omega
  rw [cell_at (heap_alloc_new ..)]; rfl)
 refine h.mono fun e w' ⟨he, hb⟩ => ⟨?_, ((Below.refl _ _).alloc (Nat.le_refl _) _).trans (hb.mono (by simp))⟩
 rw [he]
 simp [varsL]
set_option maxHeartbeats 1000000 in
theorem text_nil (w : World) (ao : Option Addr) (c : Nat) :
  Calls Try.prog 25 #[.slice ao 0 c] w fun e w' => e = .returned (.string (bs [])) /\ Below w.heap.size w w' := by
 have hconv := (BRow.nil w.heap.size w).text
 go_enter Try.func25, Try.ntmps25
 go_wp2
 go_loop [3, 8] (fun s i => i = .int .i64 0 /\ s = .slice none 0 0) (fun _ _ => 0)
 case atStart => exact ⟨rfl, rfl⟩
 case round =>
  obtain ⟨rfl, rfl⟩ := hrel
  go_wp2
  go_ret
  exact ⟨rfl, Below.refl _ _⟩
set_option maxHeartbeats 2000000 in
theorem text_some (L : List ByteArray) (b off c : Nat) (w : World) (hn : L.length <= 100000) (hL : ∀ x ∈ L, x.size <= 1000000) (hbw : b < w.heap.size)
  (hc : ∀ j (h : j < L.length), w.cell? ⟨b, off + j, none⟩ = some (.string L[j])) :
  Calls Try.prog 25 #[.slice (some ⟨b, off, none⟩) L.length c] w fun e w' => e = .returned (.string (bs (textsL L))) /\ Below w.heap.size w w' := by
 obtain ⟨i0, hi, hz0, hz1, hz2⟩ := info_parts Try.infoB
 have HZ2 := Lib.hid hz2; clear hz2
 have HC := Lib.hid hc; clear hc
 have HL := Lib.hid hL; clear hL
 go_enter Try.func25, Try.ntmps25
 go_wp2
 go_loopw [3, 8] (fun s i wr => ∃ k : Nat, k <= L.length /\ i = .int .i64 k /\ Hid (BRow w.heap.size wr s (textsL (L.take k))) /\ Hid (Below w.heap.size w wr)) (fun _ i _ => L.length - (intOf i).toNat)
 case atStart => exact ⟨0, Nat.zero_le _, rfl, BRow.nil _ _, Below.refl _ _⟩
 case round =>
  obtain ⟨k, hk, rfl, HO, HB⟩ := hrel
  have hbz := HB.out.size
  by_cases hlt : k < L.length
  ·have hcell : wr.cell? ⟨b, off + k, none⟩ = some (.string L[k]) := by rw [HB.out.cell (p := ⟨b, off + k, none⟩) hbw]; exact HC.out k hlt
   have hxl := HL.out L[k] (List.getElem_mem hlt)
   have hal : (textsL (L.take k)).length <= 100001000000 := by
    have := textsL_len (L.take k) (fun x hx => HL.out x (List.mem_of_mem_take hx))
    rw [List.length_take] at this; omega
   have HJ := Lib.hid (textsL_take L k hlt)
   obtain ⟨x, hx⟩ : ∃ x, L[k] = x := ⟨_, rfl⟩
   rw [hx] at hcell hxl HJ
   clear hx
   obtain ⟨acc, ha⟩ : ∃ acc, textsL (L.take k) = acc := ⟨_, rfl⟩
   rw [ha] at hal HO HJ
   clear ha
   have hT := varL_ten x.size (by omega)
   have HE : Hid (textL x.data.toList = varL x.size ++ x.data.toList) := by show _ = _; unfold textL; simp
   have C := Lib.hid (var_one x.size (by omega) wr)
   go_wp2_with fail
   refine C.out.mono ?_
   rintro e w1 ⟨rfl, hb1⟩
   have HO1 := Lib.hid (own_below HO.out hb1)
   have HB1 : Hid (Below w.heap.size w w1) := HB.out.trans (hb1.mono hbz)
   have hz1' : wr.heap.size <= w1.heap.size := hb1.size
   clear hb1 C HO HB
   go_wp2_with (at_builtin; refine Lib.wpList_append_own_string _ rfl (.tmp 12) (.tmp 17) 38 9 rfl w.heap.size 5 i0 Try.underlying38 Try.underlying9 hi hz0 hz1 HZ2.out _ _ _ rfl HO1.out (bs (varL x.size)) rfl ?c3 ?c4 ?c5 ?_)
   case c3 => rw [bs_size]; unfold maxLen; omega
   case c4 => rw [bs_size]; omega
   case c5 => omega
   intro v2 w2 hown2 hgrow2 _
   rw [strCells_bs] at hown2
   have HO2 := Lib.hid (BRow.add hown2 (by rw [bs_size]))
   have HB2 : Hid (Below w.heap.size w w2) := HB1.out.grown hgrow2 (by omega) (fun g hg => (HO1.out.lt g hg).1)
   clear hown2 hgrow2 HO1 HB1
   have hz2' := HB2.out.size
   have hal2 : (acc ++ varL x.size).length <= 100001000010 := by rw [List.length_append]; omega
   go_wp2_with (at_builtin; refine Lib.wpList_append_own_string _ rfl (.tmp 19) (.tmp 20) 38 9 rfl w.heap.size 5 i0 Try.underlying38 Try.underlying9 hi hz0 hz1 HZ2.out _ _ _ rfl HO2.out x rfl ?d3 ?d4 ?d5 ?_)
   case d3 => unfold maxLen; omega
   case d4 => omega
   case d5 => omega
   intro v3 w3 hown3 hgrow3 _
   rw [show Lib.strCells x = cellsB x.data.toList from rfl] at hown3
   have HO3 := Lib.hid (BRow.add hown3 (by simp))
   have HB3 : Hid (Below w.heap.size w w3) := HB2.out.grown hgrow3 (by omega) (fun g hg => (HO2.out.lt g hg).1)
   clear hown3 hgrow3 HO2 HB2
   go_wp2
   go_roundw
   case rel => exact ⟨k + 1, by omega, by go_num, by rw [HJ.out, HE.out, <- List.append_assoc]; exact HO3, HB3⟩
   case measure => simp [intOf]; omega
  ·have hconv := HO.out.text
   rw [List.take_of_length_le (by omega)] at hconv
   go_wp2
   go_ret
   exact ⟨rfl, HB.out⟩
theorem text_any (L : List ByteArray) (v : Value) (w : World) (hn : L.length <= 100000) (hL : ∀ x ∈ L, x.size <= 1000000) (h : Strs w v L) :
  Calls Try.prog 25 #[v] w fun e w' => e = .returned (.string (bs (textsL L))) /\ Below w.heap.size w w' := by
 rcases h with ⟨rfl, rfl⟩ | ⟨b, off, c, rfl, hb, hc⟩
 ·exact text_nil w none 0
 ·exact text_some L b off c w hn hL hb hc
end Go.Proofs.Ytjfclpicoamfaaa.Fr
/- Terms and what belongs to them, in plain lists: when a list is right, its bytes, how they are read. -/
namespace Go.Proofs.Ytjfclpicoamfaaa.Di
open Fr (varL textL rdV rdT rdV_varL rdV_some rdT_textL rdT_some bs)
structure En where
 t : ByteArray
 v : ByteArray
deriving DecidableEq
theorem bs_list (l : List UInt8) : (bs l).data.toList = l := by unfold bs; simp
theorem bs_back (s : ByteArray) : bs s.data.toList = s := by
 apply ByteArray.ext
 unfold bs
 simp
theorem str_len (s : ByteArray) : s.data.toList.length = s.size := by simp
def okE (x : En) : Prop := 1 <= x.t.size /\ x.t.size <= 40 /\ x.v.size <= 4194304
instance (x : En) : Decidable (okE x) := inferInstanceAs (Decidable (_ /\ _))
def upE (a b : En) : Prop := less a.t b.t = true
instance (a b : En) : Decidable (upE a b) := inferInstanceAs (Decidable (_ = _))
def RightD (L : List En) : Prop := L.length <= 1048576 /\ (∀ x ∈ L, okE x) /\ L.Pairwise upE
instance (L : List En) : Decidable (RightD L) := inferInstanceAs (Decidable (_ /\ _))
def alike : List UInt8 -> List UInt8 -> Nat
 | a :: r, b :: q => if a = b then alike r q + 1 else 0
 | _, _ => 0
theorem alike_le : ∀ (a b : List UInt8), alike a b <= a.length /\ alike a b <= b.length
 | [], _ => ⟨Nat.zero_le _, Nat.zero_le _⟩
 | _ :: _, [] => ⟨Nat.zero_le _, Nat.zero_le _⟩
 | a :: r, b :: q => by
  have := alike_le r q
  rw [alike]
  split
  ·simp only [List.length_cons]; omega
  ·exact ⟨Nat.zero_le _, Nat.zero_le _⟩
theorem alike_take : ∀ (a b : List UInt8), a.take (alike a b) = b.take (alike a b)
 | [], b => by simp [alike]
 | _ :: _, [] => by simp [alike]
 | a :: r, b :: q => by
  rw [alike]
  split
  ·rename_i h
   rw [List.take_succ_cons, List.take_succ_cons, alike_take r q, h]
  ·rfl
theorem alike_next : ∀ (a b : List UInt8) (n : Nat), n <= alike a b -> (h1 : n < a.length) -> (h2 : n < b.length) -> (a[n] = b[n] ↔ n < alike a b)
 | [], _, n, _, h1, _ => by simp at h1
 | _ :: _, [], n, _, _, h2 => by simp at h2
 | a :: r, b :: q, n, hn, h1, h2 => by
  rw [alike] at hn ⊢
  cases n with
  | zero =>
   simp only [List.getElem_cons_zero]
   split
   ·rename_i h; exact ⟨fun _ => Nat.succ_pos _, fun _ => h⟩
   ·rename_i h; exact ⟨fun e => absurd e h, fun e => absurd e (by omega)⟩
  | succ n =>
   split at hn
   ·rename_i h
    rw [if_pos h]
    have := alike_next r q n (by omega) (by simpa using h1) (by simpa using h2)
    simp only [List.getElem_cons_succ]
    rw [this]
    omega
   ·omega
def entL (p : List UInt8) (x : En) : List UInt8 := varL (alike p x.t.data.toList) ++ (textL (x.t.data.toList.drop (alike p x.t.data.toList)) ++ textL x.v.data.toList)
def blkL : List UInt8 -> List En -> List UInt8
 | _, [] => []
 | p, x :: r => entL p x ++ blkL x.t.data.toList r
def idxL (L : List En) : List UInt8 :=
 if h : L = [] then [] else textL (L.head h).t.data.toList ++ (varL (blkL [] (L.take 16)).length ++ idxL (L.drop 16))
termination_by L.length
decreasing_by
 have := List.length_pos_iff.2 h
 rw [List.length_drop]; omega
def allD (L : List En) : List UInt8 :=
 if h : L = [] then [] else blkL [] (L.take 16) ++ allD (L.drop 16)
termination_by L.length
decreasing_by
 have := List.length_pos_iff.2 h
 rw [List.length_drop]; omega
def bytesD (L : List En) : List UInt8 := varL L.length ++ (idxL L ++ allD L)
def dEnt (p : List UInt8) (l : List UInt8) : Option (En × List UInt8) :=
 (rdV l).bind fun x => if x.1 <= p.length then (rdT x.2).bind fun y => (rdT y.2).bind fun z => some (⟨bs (p.take x.1 ++ y.1), bs z.1⟩, z.2) else none
theorem dEnt_back (p : List UInt8) (x : En) (s : List UInt8) (hp : p.length < 18446744073709551616) (hx : okE x) : dEnt p (entL p x ++ s) = some (x, s) := by
 obtain ⟨h1, h2⟩ := alike_le p x.t.data.toList
 have ht := alike_take p x.t.data.toList
 have hl := str_len x.t
 have hv := str_len x.v
 obtain ⟨_, ho1, ho2⟩ := hx
 unfold dEnt entL
 rw [List.append_assoc, rdV_varL _ _ (by omega), Option.bind_some]
 dsimp only
 rw [if_pos h1, List.append_assoc, rdT_textL _ _ (by rw [List.length_drop]; omega), Option.bind_some]
 dsimp only
 rw [rdT_textL _ _ (by omega), Option.bind_some]
 dsimp only
 rw [ht, List.take_append_drop, bs_back, bs_back]
theorem varL_le (v : Nat) (h : v < 18446744073709551616) : (varL v).length <= 10 := Fr.varL_ten v h
theorem textL_len (l : List UInt8) (h : l.length < 18446744073709551616) : (textL l).length <= l.length + 10 := by
 have := varL_le l.length h
 unfold textL
 rw [List.length_append]; omega
theorem entL_len (p : List UInt8) {x : En} (hx : okE x) : (entL p x).length <= 30 + x.t.size + x.v.size := by
 have h2 := (alike_le p x.t.data.toList).2
 have hl := str_len x.t
 have hv := str_len x.v
 obtain ⟨_, ho1, ho2⟩ := hx
 have a1 := varL_le (alike p x.t.data.toList) (by omega)
 have a2 := textL_len (x.t.data.toList.drop (alike p x.t.data.toList)) (by rw [List.length_drop]; omega)
 have a3 := textL_len x.v.data.toList (by omega)
 rw [List.length_drop] at a2
 unfold entL
 rw [List.length_append, List.length_append]
 omega
theorem blkL_len : ∀ (p : List UInt8) (L : List En), (∀ x ∈ L, okE x) -> (blkL p L).length <= 4194400 * L.length
 | _, [], _ => Nat.le_refl _
 | p, x :: r, h => by
  have h1 := entL_len p (h x (by simp))
  have h2 := blkL_len x.t.data.toList r (fun y hy => h y (by simp [hy]))
  obtain ⟨_, ho1, ho2⟩ := h x (by simp)
  rw [blkL, List.length_append, List.length_cons]
  omega
theorem blk_small (M : List En) (h : ∀ x ∈ M, okE x) (hm : M.length <= 16) : (blkL [] M).length < 18446744073709551616 := by
 have := blkL_len [] M h; omega
theorem ex_pack : bytesD [⟨⟨#[97, 98]⟩, ⟨#[49]⟩⟩, ⟨⟨#[97, 98, 99]⟩, ⟨#[50]⟩⟩] = [2, 2, 97, 98, 11, 0, 2, 97, 98, 1, 49, 2, 1, 99, 1, 50] := by decide +kernel
end Go.Proofs.Ytjfclpicoamfaaa.Di
/- Frames in plain lists: what is packed, what a head tells, what is unpacked; nothing of the program is walked here. -/
namespace Go.Proofs.Ytjfclpicoamfaaa.Fr
open Go.RowKit
theorem str_same {a b : ByteArray} (h : a = b) : (a.toList == b.toList) = true := by rw [h]; simp
theorem str_diff {a b : ByteArray} (h : a ≠ b) : (a.toList == b.toList) = false := by
 rw [ByteArray.toList_eq, ByteArray.toList_eq, beq_eq_false_iff_ne]
 intro h2
 apply h
 apply ByteArray.ext
 exact Array.ext' h2
theorem str_len (s : ByteArray) : s.data.toList.length = s.size := by simp
def nmAt (l : List UInt8) (i : Nat) : Nat := unfix (l.getD i 0) (l.getD (i + 1) 0) (l.getD (i + 2) 0) (l.getD (i + 3) 0)
theorem getD_left (A B : List UInt8) (i : Nat) (h : i < A.length) : (A ++ B).getD i 0 = A.getD i 0 := by simp [List.getD, List.getElem?_append_left h]
theorem nmAt_left (A B : List UInt8) (i : Nat) (h : i + 4 <= A.length) : nmAt (A ++ B) i = nmAt A i := by
 unfold nmAt
 rw [getD_left _ _ _ (by omega), getD_left _ _ _ (by omega), getD_left _ _ _ (by omega), getD_left _ _ _ (by omega)]
theorem four (l : List UInt8) (i : Nat) (h : i + 4 <= l.length) : (l.take (i + 4)).drop i = [l.getD i 0, l.getD (i + 1) 0, l.getD (i + 2) 0, l.getD (i + 3) 0] := by
 have e (j : Nat) (hj : j < l.length) : l.getD j 0 = l[j] := by simp [List.getD, hj]
 rw [e i (by omega), e (i + 1) (by omega), e (i + 2) (by omega), e (i + 3) (by omega), List.drop_take, show i + 4 - i = 4 by omega,
  List.drop_eq_getElem_cons (by omega), List.take_succ_cons, List.drop_eq_getElem_cons (by omega), List.take_succ_cons,
  List.drop_eq_getElem_cons (by omega), List.take_succ_cons, List.drop_eq_getElem_cons (by omega), List.take_succ_cons, List.take_zero]
def cdxt : List UInt8 := [67, 68, 88, 84]
def cdxe : List UInt8 := [67, 68, 88, 69]
def numsL (l : List (Int × ByteArray)) : List UInt8 := l.flatMap fun x => fixL x.1.toNat
def begL (seq n : Nat) (l : List (Int × ByteArray)) : List UInt8 := cdxt ++ (fixL (seq % 4294967296) ++ (fixL (seq / 4294967296) ++ (fixL n ++ numsL l)))
def headL (seq : Nat) (l : List (Int × ByteArray)) : List UInt8 := begL seq l.length l ++ List.replicate (248 - (16 + 4 * l.length)) 0
def topL (seq : Nat) (l : List (Int × ByteArray)) : List UInt8 := headL seq l ++ (fixL (crcL (headL seq l ++ joinB (l.map (·.2)))) ++ cdxe)
def packL (seq : Nat) (l : List (Int × ByteArray)) : List ByteArray := bs (topL seq l) :: l.map (·.2)
def takeB (n m : Nat) (q : List UInt8) : Bool := (List.range m).all fun i => if i < n then decide (nmAt q (4 * i) < 4096) else nmAt q (4 * i) == 0
def headB (l : List UInt8) : Bool := decide (l.length = 256) && decide (l.take 4 = cdxt) && decide (l.drop 252 = cdxe) && decide (1 <= nmAt l 12) && decide (nmAt l 12 <= 48) && takeB (nmAt l 12) 58 ((l.take 248).drop 16)
def seqOf (l : List UInt8) : Nat := nmAt l 4 + 4294967296 * nmAt l 8
def hd (s : ByteArray) : Nat × Nat × Bool := if headB s.data.toList = true then (seqOf s.data.toList, nmAt s.data.toList 12, true) else (0, 0, false)
end Go.Proofs.Ytjfclpicoamfaaa.Fr
/- A text as bytes of one's own, and back. -/
namespace Go.Proofs.Ytjfclpicoamfaaa.Fr
open Go.RowKit
def FRow (w : World) (g : Nat) (l : List UInt8) : Prop := ∀ j (h : j < l.length), w.cell? ⟨g, j, none⟩ = some (.int .u8 (l[j].toNat : Int)) /\ w.frozen? ⟨g, j, none⟩ = false
theorem bytes_new (w : World) (s : ByteArray) : ∃ cap W2, (convert 9 38 (.string s)).run Try.prog w = .ok (.slice (some ⟨w.heap.size, 0, none⟩) s.size cap) W2 /\ FRow W2 w.heap.size s.data.toList /\ Below w.heap.size w W2 := by
 refine ⟨_, _, run_bytes_of_string w 9 38 5 s Try.underlying9 Try.underlying38 Try.underlying5, ?_, (Below.refl _ _).drew.alloc (Nat.le_refl _) _⟩
 intro j hj
 have hj' : j < s.size := by rw [str_len] at hj; exact hj
 have hsz : s.size <= (bytesRow s (grownCap w s.size 0 5)).size := by unfold bytesRow; rw [Array.size_append, Array.size_map]; exact Nat.le_add_right _ _
 refine ⟨?_, ?_⟩
 ·rw [show w.heap.size = w.drew.heap.size from rfl, World.cell?_alloc_mark]
  unfold bytesRow
  rw [Array.getElem?_append_left (by rw [Array.size_map]; exact hj'), Array.getElem?_map, Array.getElem?_eq_getElem (show j < s.data.size from hj')]
  rfl
 ·rw [show w.heap.size = w.drew.heap.size from rfl, World.frozen?_alloc_mark, decide_eq_false (by omega)]; rfl
theorem FRow.put {w : World} {g : Nat} {l : List UInt8} (h : FRow w g l) (i : Nat) (hi : i < l.length) (b : UInt8) : FRow (w.setCell ⟨g, i, none⟩ (.int .u8 (b.toNat : Int))) g (l.set i b) := by
 intro j hj
 have hj' : j < l.length := by simpa using hj
 refine ⟨?_, by rw [World.frozen?_setCell]; exact (h j hj').2⟩
 by_cases e : j = i
 ·subst e
  rw [World.cell?_setCell_same' _ _ _ (by rw [(h j hj').1]; rfl)]
  simp
 ·rw [World.cell?_setCell_other _ _ _ _ (by simp), (h j hj').1]
  simp [Ne.symm e]
theorem FRow.text {w : World} {g cap : Nat} {l : List UInt8} (h : FRow w g l) : (convert 38 9 (.slice (some ⟨g, 0, none⟩) l.length cap)).run Try.prog w = .ok (.string (bs l)) w :=
 run_convert_bytes_back w 38 9 5 ⟨g, 0, none⟩ cap l Try.underlying38 Try.underlying5 Try.underlying9 (fun j hj => by
  rw [show (⟨g, 0, none⟩ : Addr).add j = ⟨g, 0 + j, none⟩ by unfold Addr.add; split <;> simp_all, Nat.zero_add]
  exact (h j hj).1)
theorem FRow.below {w w' : World} {g : Nat} {l : List UInt8} (h : FRow w g l) (hb : Below w.heap.size w w') (hg : g < w.heap.size) : FRow w' g l := fun j hj =>
 ⟨(hb.cell (p := ⟨g, j, none⟩) hg).trans (h j hj).1, (hb.frozen (p := ⟨g, j, none⟩) hg).trans (h j hj).2⟩
def byteOf (t : Int) : UInt8 := UInt8.ofNat (t % 256).toNat
theorem byteOf_val (t : Int) : ((byteOf t).toNat : Int) = t % 256 := by
 unfold byteOf
 rw [UInt8.toNat_ofNat']
 omega
end Go.Proofs.Ytjfclpicoamfaaa.Fr
