/- What the statements' own helpers answer: pick, full, data, sameTexts, fine. -/
import Derived.Test.YthambopnmhkeeaaGreatZCalls2
import Derived.Test.YthambopnmhkeeaaGreatZSettle
import Derived.Test.YthambopnmhkeeaaGreatZFBase
import Derived.BigQuiet
import Derived.Deep.QuietTactic
import Derived.Handy
import Derived.Lib.MinMax

namespace Go.Proofs.YthambopnmhkeeaaGreat
open Go.RowKit
open Fr (SlS StrsAt)
def pickI (c n : Int) : Int := (if c < 0 then -(c + 1) else c) % n
theorem pickI_lt (c n : Int) (hn : 0 < n) : 0 <= pickI c n /\ pickI c n < n := ⟨Int.emod_nonneg _ (by omega), Int.emod_lt_of_pos _ hn⟩
end Go.Proofs.YthambopnmhkeeaaGreat
/- What the helpers of the statements on stores answer: pick, full, at, data. -/
set_option maxRecDepth 100000
namespace Go.Proofs.YthambopnmhkeeaaGreat
open Go.RowKit
set_option maxHeartbeats 400000 in
theorem pick7_any (c n : Int) (w : World) (hc : -9223372036854775808 <= c /\ c <= 9223372036854775807) (hn : 0 < n /\ n <= 1000000) :
  Calls Tryz.prog 12 #[.int .i64 c, .int .i64 n] w fun e w' => e = .returned (.int .i64 (pickI c n)) /\ w = w' := by
 have hne : (n == 0) = false := by simp; omega
 have hm1 : (n == -1) = false := by simp; omega
 by_cases h : c < 0
 ·have HP : Hid (pickI c n = -((c + 1).tmod n)) := by
   show pickI c n = _; unfold pickI
   rw [if_pos h, <- Int.neg_tmod, Int.tmod_eq_emod_of_nonneg (by omega)]
  go_enter Tryz.func12, Tryz.ntmps12
  go_wp2
  go_ret
  exact ⟨by rw [HP.out]; rfl, rfl⟩
 ·have HP : Hid (pickI c n = c % n) := by show pickI c n = _; unfold pickI; rw [if_neg h]
  have h0 : 0 <= c := by omega
  go_enter Tryz.func12, Tryz.ntmps12
  go_wp2
  go_ret
  exact ⟨by rw [HP.out]; rfl, rfl⟩
set_option maxHeartbeats 1000000 in
theorem full7_any (c : Int) (w : World) :
  Calls Tryz.prog 43 #[.int .u8 c] w fun e w' => e = .returned (.string (textOf fun _ => c)) /\ Below w.heap.size w w' := by
 obtain ⟨i0, hi, hz0, hz1, hz2⟩ := info_parts Tryz.infoB
 go_enter Tryz.func43, Tryz.ntmps43
 go_wp2_with (at_make; refine wpList_make_full _ rfl _ _ 107 rfl w.heap.size 5 i0 (.int .u8 0) 1 Tryz.underlying107 hi hz0 hz1 _ _ _ _ 256 rfl rfl rfl rfl (by rw [hz2]; decide) (by unfold maxLen; omega) (Nat.le_refl _) ?_)
 intro w1 hown hgrow
 have HR : Hid (Row w.heap.size w1 w.heap.size (fun _ => c) 0) := by
  show w1.ownsRow _ _ _ _ _ _
  rw [rowI_zero]
  rw [toList_madeCells_one] at hown
  exact hown
 have HB : Hid (Below w.heap.size w w1) := (Below.refl _ _).grown hgrow (Nat.le_refl _) (fun k h => by cases h)
 clear hown hgrow
 generalize hg : w.heap.size = g at *
 have HG := Lib.hid hg; clear hg
 go_wp2_with fail
 go_loopw [4] (fun i wr => ∃ k : Nat, k <= 256 /\ i = .int .i64 k /\ Hid (Row g wr g (fun _ => c) k) /\ Hid (Below g w wr)) (fun i _ => 256 - (intOf i).toNat)
 case atStart => exact ⟨0, Nat.zero_le _, rfl, HR, HB⟩
 case round =>
  clear HR HB
  obtain ⟨k, hk, rfl, HR, HB⟩ := hrel
  by_cases hlt : k < 256
  ·have hc := HR.out.cell k hlt
   have hf := HR.out.free k
   simp only [Nat.lt_irrefl, if_false] at hc
   go_wp2
   go_roundw
   case rel => exact ⟨k + 1, by omega, by go_num, HR.out.store hlt, HB.out.setCell (Nat.le_refl _) _⟩
   case measure => simp [intOf]; omega
  ·have hk' : k = 256 := by omega
   subst hk'
   have hconv := HR.out.text
   obtain ⟨T, hT⟩ : ∃ T, textOf (fun _ => c) = T := ⟨_, rfl⟩
   rw [hT] at hconv
   have HT := Lib.hid hT; clear hT
   go_wp2
   go_ret
   exact ⟨by rw [HT.out]; rfl, by rw [HG.out]; exact HB.out⟩
def fl7 (c : Int) : ByteArray := textOf fun _ => c
theorem fl7_size (c : Int) : (fl7 c).size = 256 := textOf_size _
def at7 (a : Int) : Int := if a.tmod 29 = 0 then a else 60 + pickI a 72
theorem at7_int {a : Int} (h : -9223372036854775808 <= a /\ a <= 9223372036854775807) : -9223372036854775808 <= at7 a /\ at7 a <= 9223372036854775807 := by
 unfold at7
 split
 ·exact h
 ·have := pickI_lt a 72 (by omega); omega
set_option maxHeartbeats 1000000 in
theorem at7_any (a : Act7) (w : World) (ha : -9223372036854775808 <= a.at_ /\ a.at_ <= 9223372036854775807) :
  Calls Tryz.prog 45 #[a.agg] w fun e w' => e = .returned (.int .i64 (at7 a.at_)) /\ Below w.heap.size w w' := by
 obtain ⟨op, x, n, keep, kao, kcap, b⟩ := a
 unfold Act7.agg
 dsimp only at ha ⊢
 generalize keep.length = kl
 by_cases h : x.tmod 29 = 0
 ·have e1 : at7 x = x := by unfold at7; rw [if_pos h]
  rw [e1]
  have h1 : (x.tmod 29 == 0) = true := by rw [h]; rfl
  clear h e1
  go_enter Tryz.func45, Tryz.ntmps45
  go_wp2
  go_ret
  exact ⟨rfl, (Below.refl _ _).alloc (Nat.le_refl _) _⟩
 ·have e1 : at7 x = 60 + pickI x 72 := by unfold at7; rw [if_neg h]
  rw [e1]
  have h1 : (x.tmod 29 == 0) = false := beq_eq_false_iff_ne.2 h
  have HP : Hid (∀ W, Calls Tryz.prog 12 #[.int .i64 x, .int .i64 72] W fun e w' => e = .returned (.int .i64 (pickI x 72)) /\ W = w') := fun W => pick7_any x 72 W ha (by omega)
  have hq := pickI_lt x 72 (by omega)
  clear h e1
  generalize pickI x 72 = q at *
  obtain ⟨q0, q1⟩ := hq
  go_enter Tryz.func45, Tryz.ntmps45
  go_wp2_with fail
  refine (HP.out _).mono ?_
  rintro e w1 ⟨rfl, rfl⟩
  go_wp2
  go_ret
  exact ⟨rfl, (Below.refl _ _).alloc (Nat.le_refl _) _⟩
def data7 (n b : Int) : ByteArray := if n.tmod 31 = 0 /\ n ≠ 0 then ⟨#[120]⟩ else fl7 b
set_option maxHeartbeats 1000000 in
theorem data7_any (a : Act7) (w : World) :
  Calls Tryz.prog 46 #[a.agg] w fun e w' => e = .returned (.string (data7 a.n a.b)) /\ Below w.heap.size w w' := by
 obtain ⟨op, x, n, keep, kao, kcap, b⟩ := a
 unfold Act7.agg
 dsimp only
 generalize keep.length = kl
 have HF : Hid (∀ W, Calls Tryz.prog 43 #[.int .u8 b] W fun e w' => e = .returned (.string (fl7 b)) /\ Below W.heap.size W w') := fun W => full7_any b W
 have hd : data7 n b = if n.tmod 31 = 0 /\ n ≠ 0 then ⟨#[120]⟩ else fl7 b := rfl
 by_cases h : n.tmod 31 = 0
 ·have h1 : (n.tmod 31 == 0) = true := by rw [h]; rfl
  by_cases h0 : n = 0
  ·rw [if_neg (by simp [h0])] at hd
   rw [hd]
   clear hd h1 h
   subst h0
   generalize fl7 b = T at *
   go_enter Tryz.func46, Tryz.ntmps46
   go_wp2_with fail
   refine (HF.out _).mono ?_
   rintro e w1 ⟨rfl, hb⟩
   have HB := Lib.hid hb; clear hb
   go_wp2
   go_ret
   exact ⟨rfl, ((Below.refl _ _).alloc (Nat.le_refl _) _).trans (HB.out.mono (by simp))⟩
  ·rw [if_pos ⟨h, h0⟩] at hd
   rw [hd]
   have h2 : (n == 0) = false := beq_eq_false_iff_ne.2 h0
   have h3 : (n != 0) = true := by simp [h0]
   clear hd h h0
   go_enter Tryz.func46, Tryz.ntmps46
   go_wp2
   go_ret
   exact ⟨rfl, (Below.refl _ _).alloc (Nat.le_refl _) _⟩
 ·rw [if_neg (fun hh => h hh.1)] at hd
  rw [hd]
  have h1 : (n.tmod 31 == 0) = false := beq_eq_false_iff_ne.2 h
  clear hd h
  generalize fl7 b = T at *
  go_enter Tryz.func46, Tryz.ntmps46
  go_wp2_with fail
  refine (HF.out _).mono ?_
  rintro e w1 ⟨rfl, hb⟩
  have HB := Lib.hid hb; clear hb
  go_wp2
  go_ret
  exact ⟨rfl, ((Below.refl _ _).alloc (Nat.le_refl _) _).trans (HB.out.mono (by simp))⟩
end Go.Proofs.YthambopnmhkeeaaGreat
