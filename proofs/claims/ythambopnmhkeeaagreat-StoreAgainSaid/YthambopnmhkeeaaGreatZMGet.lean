/- Bits as the program tells them: size, value, the closure, Get, first. -/
import Derived.Test.YthambopnmhkeeaaGreatRows
import Derived.Test.YthambopnmhkeeaaGreatZWMath
import Derived.WalkSpells
import Derived.WalkLawsBesides
import Derived.Lib.Hide
import Derived.Lib.MinMax
import Derived.IntWalk
import Derived.Laws.BitsAllLaws
import Derived.Deep.QuietTactic
import Derived.BigQuiet

set_option maxRecDepth 100000
namespace Go.Proofs.YthambopnmhkeeaaGreat.Bm
open Go.RowKit
theorem str_len (s : ByteArray) : s.data.toList.length = s.size := Array.length_toList
theorem vb_lt (i : Nat) : vb i < 256 := by
 unfold vb
 have : 2 ^ (i % 8) < 2 ^ 8 := Nat.pow_lt_pow_right (by omega) (Nat.mod_lt _ (by omega))
 omega
theorem bt_at (s : ByteArray) (i : Nat) (h : i / 8 < s.size) : bt s.data.toList i = s[i / 8].toNat.testBit (i % 8) := by
 unfold bt
 have h2 : i / 8 < s.data.toList.length := by rw [str_len]; exact h
 rw [show s.data.toList.getD (i / 8) 0 = s[i / 8] by rw [List.getD, List.getElem?_eq_getElem h2]; rfl]
theorem and_vb_all : ∀ b : Fin 256, ∀ r : Fin 8, (b.1 &&& 2 ^ r.1 != 0) = b.1.testBit r.1 := by decide +kernel
theorem and_vb (s : ByteArray) (i : Nat) (h : i / 8 < s.size) : (bits .and .u8 (s[i / 8].toNat : Int) ((vb i : Nat) : Int) != 0) = bt s.data.toList i := by
 rw [u8_and_nat _ _ (s[i / 8].toNat_lt) (vb_lt i), bt_at s i h, <- and_vb_all ⟨_, s[i / 8].toNat_lt⟩ ⟨i % 8, Nat.mod_lt _ (by omega)⟩]
 rw [Bool.eq_iff_iff]
 simp [vb]
theorem ret_of {k : IntKind} {a b : Int} (h : a = b) : Ending.returned (.int k a) = .returned (.int k b) := by rw [h]
theorem ret_bool {a b : Bool} (h : a = b) : Ending.returned (.bool a) = .returned (.bool b) := by rw [h]
theorem vb_int (i : Nat) : ((vb i : Nat) : Int) = 2 ^ (i % 8) % 256 := by
 have h := vb_lt i
 have h2 : (2 : Int) ^ (i % 8) = ((vb i : Nat) : Int) := by unfold vb; rw [Int.natCast_pow]; rfl
 rw [h2]; omega
theorem size_any (s : ByteArray) (w : World) (hs : s.size <= 1000000) :
  Calls Tryz.prog 112 #[.string s] w fun e w' => e = .returned (.int .i64 (8 * (s.size : Int))) /\ w = w' := by
 go_enter Tryz.func112, Tryz.ntmps112
 go_wp2
 go_ret
 exact ⟨rfl, rfl⟩
theorem value_any (i : Nat) (w : World) (hi : i <= 8000000) :
  Calls Tryz.prog 113 #[.int .i64 (i : Int)] w fun e w' => e = .returned (.int .u8 ((vb i : Nat) : Int)) /\ w = w' := by
 go_enter Tryz.func113, Tryz.ntmps113
 go_wp2
 go_ret
 exact ⟨ret_of (by rw [vb_int]), rfl⟩
theorem size_same (s : ByteArray) (w : World) (hs : s.size <= 1000000) :
  Calls Tryz.prog 112 #[.string s] w fun e w' => e = .returned (.int .i64 (8 * (s.size : Int))) /\ w' = w := (size_any s w hs).mono fun _ _ h => ⟨h.1, h.2.symm⟩
theorem value_same (i : Nat) (w : World) (hi : i <= 8000000) :
  Calls Tryz.prog 113 #[.int .i64 (i : Int)] w fun e w' => e = .returned (.int .u8 ((vb i : Nat) : Int)) /\ w' = w := (value_any i w hi).mono fun _ _ h => ⟨h.1, h.2.symm⟩
set_option maxHeartbeats 1000000 in
theorem bits1_any (s : ByteArray) (i : Int) (b : Nat) (w : World) (hs : s.size <= 1000000) (hi : -9223372036854775808 <= i /\ i <= 9223372036854775807) (hc : w.cell? ⟨b, 0, none⟩ = some (.string s)) :
  Calls Tryz.prog 164 #[.int .i64 i, .pointer (some ⟨b, 0, none⟩)] w fun e w' => e = .returned (.bool (gb s.data.toList i)) /\ ∃ n, w' = w.drewN n := by
 obtain ⟨h1, h2⟩ := hi
 by_cases h0 : 0 <= i
 ·obtain ⟨k, rfl⟩ := Int.eq_ofNat_of_zero_le h0
  rw [gb_nat]
  by_cases hlt : k < 8 * s.size
  ·have hq : k / 8 < s.size := by omega
   have HV := Lib.hid (and_vb s k hq)
   have hd0 : decide ((k : Int) < 8 * (s.size : Int)) = true := decide_eq_true (by omega)
   have hd1 : decide ((0 : Int) <= (k : Int)) = true := decide_eq_true (by omega)
   have hq0 : (0 : Int) <= (k : Int) / 8 := by omega
   have hq1 : (k : Int) / 8 < (s.size : Int) := by omega
   have hq2 : ((k : Int) / 8).toNat = k / 8 := by omega
   go_enter Tryz.func164, Tryz.ntmps164
   go_wp2
   go_quiet ((first | (go_at_call 112; exact Calls.quiet_of_same (size_same _ _ (by omega))) | (go_at_call 113; exact Calls.quiet_of_same (value_same _ _ (by omega)))))
   go_wp2
   go_ret
   exact ⟨ret_bool HV.out, nq, rfl⟩
  ·have hd0 : decide ((k : Int) < 8 * (s.size : Int)) = false := decide_eq_false (by omega)
   have hd1 : decide ((0 : Int) <= (k : Int)) = true := decide_eq_true (by omega)
   rw [bt_out _ _ (by rw [str_len]; omega)]
   go_enter Tryz.func164, Tryz.ntmps164
   go_wp2
   go_quiet ((first | (go_at_call 112; exact Calls.quiet_of_same (size_same _ _ (by omega))) | (go_at_call 113; exact Calls.quiet_of_same (value_same _ _ (by omega)))))
   go_wp2
   go_ret
   exact ⟨rfl, nq, rfl⟩
 ·have hd1 : decide (0 <= i) = false := decide_eq_false h0
  rw [gb_neg _ _ (by omega)]
  go_enter Tryz.func164, Tryz.ntmps164
  go_wp2
  go_quiet ((first | (go_at_call 112; exact Calls.quiet_of_same (size_same _ _ (by omega))) | (go_at_call 113; exact Calls.quiet_of_same (value_same _ _ (by omega)))))
  go_wp2
  go_ret
  exact ⟨rfl, nq, rfl⟩
theorem below_drewN {B : Nat} {w w1 : World} (h : Below B w w1) (n : Nat) : Below B w (w1.drewN n) := ⟨h.os, h.tape, h.output, h.size, h.block⟩
theorem bitsOf_any (s : ByteArray) (w : World) :
  Calls Tryz.prog 109 #[.string s] w fun e w' => ∃ b, e = .returned (.func (.func 164) #[] #[.pointer (some ⟨b, 0, none⟩)]) /\ w.heap.size <= b /\ b < w'.heap.size /\ w'.cell? ⟨b, 0, none⟩ = some (.string s) /\ Below w.heap.size w w' := by
 go_enter Tryz.func109, Tryz.ntmps109
 go_wp2
 go_ret
 exact ⟨_, rfl, Nat.le_refl _, by simp, by simp [World.cell?_alloc_at], (Below.refl _ _).alloc (Nat.le_refl _) _⟩
set_option maxHeartbeats 1000000 in
theorem get_any (s : ByteArray) (i : Int) (w : World) (hs : s.size <= 1000000) (hi : -9223372036854775808 <= i /\ i <= 9223372036854775807) :
  Calls Tryz.prog 97 #[.string s, .int .i64 i] w fun e w' => e = .returned (.bool (gb s.data.toList i)) /\ Below w.heap.size w w' := by
 go_enter Tryz.func97, Tryz.ntmps97
 go_wp2_with fail
 refine (bitsOf_any _ _).mono ?_
 rintro e w1 ⟨b, rfl, hb1, hb2, hc, hbel⟩
 have HB := Lib.hid hbel; clear hbel
 go_wp2_with (go_at_call 164; refine (bits1_any s i b _ hs hi hc).mono ?_; rintro e w2 ⟨rfl, n, rfl⟩)
 go_ret
 exact ⟨rfl, below_drewN HB.out _⟩
set_option maxHeartbeats 1000000 in
theorem first_any (s : ByteArray) (n : Int) (w : World) (hs : s.size <= 1000000) (hn : -9223372036854775808 <= n /\ n <= 9223372036854775807) :
  Calls Tryz.prog 110 #[.string s, .int .i64 n] w fun e w' => e = .returned (.int .i64 ((fi s.size n : Nat) : Int)) /\ w = w' := by
 go_enter Tryz.func110, Tryz.ntmps110
 go_wp2_with fail
 refine (size_any _ _ hs).mono ?_
 rintro e w1 ⟨rfl, rfl⟩
 go_wp2
 go_ret
 exact ⟨ret_of (show max 0 (min n (8 * (s.size : Int))) = _ by unfold fi; omega), rfl⟩
end Go.Proofs.YthambopnmhkeeaaGreat.Bm
/- What Free and Fit answer: how many are free, and where so many beside one another are. -/
set_option maxRecDepth 100000
namespace Go.Proofs.YthambopnmhkeeaaGreat.Bm
open Go.RowKit
set_option maxHeartbeats 1000000 in
theorem free_any (s : ByteArray) (n : Int) (w : World) (hs : s.size <= 1000000) (hn : -9223372036854775808 <= n /\ n <= 9223372036854775807) :
  Calls Tryz.prog 57 #[.string s, .int .i64 n] w fun e w' => e = .returned (.int .i64 ((fr s.data.toList (fi s.size n) : Nat) : Int)) /\ Below w.heap.size w w' := by
 have hm := fi_le s.size n
 have HF := Lib.hid fun W => first_any s n W hs hn
 generalize fi s.size n = m at *
 go_enter Tryz.func57, Tryz.ntmps57
 go_wp2_with fail
 refine (bitsOf_any _ _).mono ?_
 rintro e w1 ⟨b, rfl, hb1, hb2, hc, hbel⟩
 have HB := Lib.hid hbel; clear hbel
 have HC := Lib.hid hc; clear hc
 go_wp2_with fail
 refine (HF.out _).mono ?_
 rintro e w2 ⟨rfl, rfl⟩
 clear HF
 go_wp2
 go_loopw [6, 13] (fun f i wr => ∃ k : Nat, k <= m /\ i = .int .i64 k /\ f = .int .i64 ((fr s.data.toList k : Nat) : Int) /\ Hid (wr.cell? ⟨b, 0, none⟩ = some (.string s)) /\ Hid (Below w.heap.size w wr)) (fun _ i _ => m - (intOf i).toNat)
 case atStart => exact ⟨0, Nat.zero_le _, rfl, rfl, HC, HB⟩
 case round =>
  clear HC HB
  obtain ⟨k, hk, rfl, rfl, HC, HB⟩ := hrel
  have hle := fr_le s.data.toList k
  by_cases hlt : k < m
  ·have HC1 := Lib.hid fun h => bits1_any s k b wr hs h HC.out
   rw [gb_nat] at HC1
   have HS : Hid (fr s.data.toList (k + 1) = fr s.data.toList k + if bt s.data.toList k = true then 0 else 1) := rfl
   cases hbt : bt s.data.toList k
   all_goals
    rw [hbt] at HC1 HS
    clear hbt
    go_wp2_with (go_at_call 164; refine (HC1.out (by omega)).mono ?_; rintro e w2 ⟨rfl, q, rfl⟩)
    go_roundw
    case rel => exact ⟨k + 1, by omega, by go_num, by rw [HS.out]; first | rfl | go_num, HC, below_drewN HB.out _⟩
    case measure => simp [intOf]; omega
  ·obtain rfl : k = m := by omega
   go_wp2
   go_ret
   exact ⟨rfl, HB.out⟩
def fitV (o : Option Nat) : Value := .tuple #[.int .i64 ((o.getD 0 : Nat) : Int), .bool o.isSome]
theorem fitV_some {o : Option Nat} {k : Nat} {a : Int} (h : o = some k) (ha : a = (k : Int)) : Ending.returned (.tuple #[.int .i64 a, .bool true]) = .returned (fitV o) := by rw [h, ha]; rfl
theorem fitV_none {o : Option Nat} (h : o = none) : Ending.returned (.tuple #[.int .i64 0, .bool false]) = .returned (fitV o) := by rw [h]; rfl
set_option maxHeartbeats 2000000 in
theorem fit_any (s : ByteArray) (n c : Int) (w : World) (hs : s.size <= 1000000) (hn : -9223372036854775808 <= n /\ n <= 9223372036854775807) (hc : -9223372036854775808 <= c /\ c <= 9223372036854775807) :
  Calls Tryz.prog 94 #[.string s, .int .i64 n, .int .i64 c] w fun e w' => e = .returned (fitV (fit s.data.toList (fi s.size n) c.toNat)) /\ Below w.heap.size w w' := by
 have hm := fi_le s.size n
 have HF := Lib.hid fun W => first_any s n W hs hn
 generalize fi s.size n = m at *
 go_enter Tryz.func94, Tryz.ntmps94
 go_wp2_with fail
 refine (bitsOf_any _ _).mono ?_
 rintro e w1 ⟨b, rfl, hb1, hb2, hcl, hbel⟩
 have HB := Lib.hid hbel; clear hbel
 have HC := Lib.hid hcl; clear hcl
 go_wp2_with fail
 refine (HF.out _).mono ?_
 rintro e w2 ⟨rfl, rfl⟩
 clear HF
 go_wp2
 go_loopw [9, 16] (fun f i wr => ∃ k : Nat, k <= m /\ i = .int .i64 k /\ f = .int .i64 ((rn s.data.toList k : Nat) : Int) /\ Hid (NoFit s.data.toList c.toNat k) /\ Hid (wr.cell? ⟨b, 0, none⟩ = some (.string s)) /\ Hid (Below w.heap.size w wr)) (fun _ i _ => m - (intOf i).toNat)
 case atStart => exact ⟨0, Nat.zero_le _, rfl, rfl, NoFit.zero _ _, HC, HB⟩
 case round =>
  clear HC HB
  obtain ⟨k, hk, rfl, rfl, HN, HC, HB⟩ := hrel
  have hle := rn_le s.data.toList k
  by_cases hlt : k < m
  ·have HC1 := Lib.hid fun h => bits1_any s k b wr hs h HC.out
   rw [gb_nat] at HC1
   have HS : Hid (rn s.data.toList (k + 1) = if bt s.data.toList k = true then 0 else rn s.data.toList k + 1) := rfl
   cases hbt : bt s.data.toList k
   ·have HBT := Lib.hid hbt
    rw [hbt] at HC1 HS
    clear hbt
    by_cases he : ((rn s.data.toList k : Nat) : Int) + 1 = c
    ·have HE : Hid (fit s.data.toList m c.toNat = some (k + 1 - c.toNat)) := HN.out.found hlt HBT.out (by omega)
     have hq : (((rn s.data.toList k : Nat) : Int) + 1 == c) = true := beq_iff_eq.2 he
     have HQ := Lib.hid he; clear he
     have hc1 : 1 <= c := by rw [<- HQ.out]; omega
     have hc2 : c <= (k : Int) + 1 := by rw [<- HQ.out]; omega
     go_wp2_with (go_at_call 164; refine (HC1.out (by omega)).mono ?_; rintro e w2 ⟨rfl, q, rfl⟩)
     go_ret2
     exact ⟨fitV_some HE.out (by omega), below_drewN HB.out _⟩
    ·have HN2 : Hid (NoFit s.data.toList c.toNat (k + 1)) := HN.out.step (.inr (by omega))
     have hq : (((rn s.data.toList k : Nat) : Int) + 1 == c) = false := beq_eq_false_iff_ne.2 he
     clear he HN
     go_wp2_with (go_at_call 164; refine (HC1.out (by omega)).mono ?_; rintro e w2 ⟨rfl, q, rfl⟩)
     go_roundw
     case rel => exact ⟨k + 1, by omega, by go_num, by rw [HS.out]; first | rfl | go_num, HN2, HC, below_drewN HB.out _⟩
     case measure => simp [intOf]; omega
   ·have HN2 : Hid (NoFit s.data.toList c.toNat (k + 1)) := HN.out.step (.inl hbt)
    rw [hbt] at HC1 HS
    clear hbt HN
    go_wp2_with (go_at_call 164; refine (HC1.out (by omega)).mono ?_; rintro e w2 ⟨rfl, q, rfl⟩)
    go_roundw
    case rel => exact ⟨k + 1, by omega, by go_num, by rw [HS.out]; first | rfl | go_num, HN2, HC, below_drewN HB.out _⟩
    case measure => simp [intOf]; omega
  ·obtain rfl : k = m := by omega
   go_wp2
   go_ret2
   exact ⟨fitV_none HN.out.none, HB.out⟩
end Go.Proofs.YthambopnmhkeeaaGreat.Bm
