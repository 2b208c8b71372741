/- What Make answers, and the document's own Make, Get, one, Set, first, Free. -/
import Derived.Test.YthambopnmhkeeaaGreatZFBase
import Derived.Test.YthambopnmhkeeaaGreatZMSet
import Derived.Test.YthambopnmhkeeaaGreatZShelf
import Derived.OneCell

set_option maxRecDepth 100000
namespace Go.Proofs.YthambopnmhkeeaaGreat.Bm
open Go.RowKit
theorem repeat_zero (c : Nat) : Lib.repeatL [0] c = List.replicate c 0 := by
 induction c with
 | zero => rfl
 | succ c ih => rw [Lib.repeatL, ih, List.replicate_succ]; rfl
theorem noughts_any (x : Int) (c : Nat) (w : World) (h : x = (c : Int)) (h1 : 1 <= c) (hc : c <= 5000) :
  Calls Tryz.prog 66 #[.string ⟨#[0]⟩, .int .i64 x] w fun e w' => e = .returned (.string (bs (List.replicate c 0))) /\ Below w.heap.size w w' := by
 subst h
 by_cases h2 : 2 <= c
 ·refine (Tryz.strings_Repeat_main ⟨#[0]⟩ c w h2 (by omega) ?_ (by decide)).mono fun e w' ⟨he, hb⟩ => ⟨?_, hb⟩
  ·show 1 * c <= _; omega
  ·rw [he]; show Ending.returned (.string (bs (Lib.repeatL [0] c))) = _; rw [repeat_zero]
 ·obtain rfl : c = 1 := by omega
  refine (Tryz.strings_Repeat_one ⟨#[0]⟩ w).mono fun e w' ⟨he, hb⟩ => ⟨he, by rw [hb]; exact Below.refl _ _⟩
def makeS (n : Int) : ByteArray := if 1 <= n /\ n <= 32768 then bs (List.replicate ((n.toNat + 7) / 8) 0) else ⟨#[]⟩
set_option maxHeartbeats 1000000 in
theorem make_any (n : Int) (w : World) (hn : -9223372036854775808 <= n /\ n <= 9223372036854775807) :
  Calls Tryz.prog 127 #[.int .i64 n] w fun e w' => e = .returned (.string (makeS n)) /\ Below w.heap.size w w' := by
 by_cases h : 1 <= n /\ n <= 32768
 ·obtain ⟨h1, h2⟩ := h
  have HE : Hid (makeS n = bs (List.replicate ((n.toNat + 7) / 8) 0)) := if_pos ⟨h1, h2⟩
  have HN := Lib.hid fun W => noughts_any ((n + 7) / 8) ((n.toNat + 7) / 8) W (by omega) (by omega) (by omega)
  rw [HE.out]
  generalize bs (List.replicate ((n.toNat + 7) / 8) 0) = T at *
  go_enter Tryz.func127, Tryz.ntmps127
  go_wp2_with fail
  refine (HN.out _).mono ?_
  rintro e w1 ⟨rfl, hb⟩
  have HB := Lib.hid hb; clear hb
  go_wp2
  go_ret
  exact ⟨rfl, HB.out⟩
 ·have HE : Hid (makeS n = ⟨#[]⟩) := if_neg h
  rw [HE.out]
  rcases (show n < 1 \/ (1 <= n /\ 32768 < n) by omega) with h1 | ⟨h1, h2⟩
  all_goals
   clear h
   go_enter Tryz.func127, Tryz.ntmps127
   go_wp2
   go_ret
   exact ⟨rfl, Below.refl _ _⟩
theorem zero_text {B : Nat} {w : World} {g n : Nat} (h : w.ownsRow B 5 1 (.slice (some ⟨g, 0, none⟩) n n) n (List.replicate n (.int .u8 0))) :
  (convert 107 9 (.slice (some ⟨g, 0, none⟩) n n)).run Tryz.prog w = .ok (.string (bs (List.replicate n 0))) w := by
 have e : bs (List.replicate n 0) = strOfNums (List.replicate n 0) := by
  unfold bs strOfNums
  rw [List.map_replicate]; rfl
 rw [e]
 refine run_convert_bytes_arg w 107 5 Tryz.underlying107 Tryz.underlying5 g 0 n n (List.replicate n 0) (by simp) ?_ 9 Tryz.underlying9
 intro i hi
 rw [Nat.zero_add, World.ownsRow.cellAt h i (by omega)]
 simp [List.getD, hi]
set_option maxHeartbeats 1000000 in
theorem rmake_any (n : Int) (w : World) (hn : -9223372036854775808 <= n /\ n <= 9223372036854775807) :
  Calls Tryz.prog 80 #[.int .i64 n] w fun e w' => e = .returned (.string (makeS n)) /\ Below w.heap.size w w' := by
 obtain ⟨i0, hi, hz0, hz1, hz2⟩ := info_parts Tryz.infoB
 have HZ2 := Lib.hid hz2; clear hz2
 by_cases h : 1 <= n /\ n <= 32768
 ·obtain ⟨h1, h2⟩ := h
  have HE : Hid (makeS n = bs (List.replicate ((n.toNat + 7) / 8) 0)) := if_pos ⟨h1, h2⟩
  obtain ⟨m, hm⟩ : ∃ m, (n.toNat + 7) / 8 = m := ⟨_, rfl⟩
  have HMT : Hid ((n + 7) / 8 = (m : Int)) := by show _ = _; omega
  have hm2 : m <= 5000 := by omega
  obtain ⟨Z, hZ⟩ : ∃ Z, bs (List.replicate m 0) = Z := ⟨_, rfl⟩
  rw [HE.out, hm, hZ]
  have HZ := Lib.hid hZ; clear hZ
  clear HE hm
  go_enter Tryz.func80, Tryz.ntmps80
  go_wp2_with (at_make; refine wpList_make_full _ rfl _ _ 107 rfl w.heap.size 5 i0 (.int .u8 0) 1 Tryz.underlying107 hi hz0 hz1 _ _ _ _ m rfl rfl HMT.out HMT.out (by rw [HZ2.out]; omega) (by unfold maxLen; omega) (Nat.le_refl _) ?_)
  intro w1 hown hgrow
  rw [toList_madeCells_one] at hown
  have hconv := zero_text hown
  rw [HZ.out] at hconv
  have HB1 : Hid (Below w.heap.size w w1) := (Below.refl _ _).grown hgrow (Nat.le_refl _) (fun k h => by cases h)
  clear hown hgrow
  go_wp2
  go_ret
  exact ⟨rfl, HB1.out⟩
 ·have HE : Hid (makeS n = ⟨#[]⟩) := if_neg h
  rw [HE.out]
  rcases (show n < 1 \/ (1 <= n /\ 32768 < n) by omega) with h1 | ⟨h1, h2⟩
  all_goals
   clear h
   go_enter Tryz.func80, Tryz.ntmps80
   go_wp2
   go_ret
   exact ⟨rfl, Below.refl _ _⟩
theorem div_step (b k : Nat) : b / 2 ^ k / 2 = b / 2 ^ (k + 1) := by rw [Nat.div_div_eq_div_mul, Nat.pow_succ]
theorem bit_test (b r : Nat) : (((b / 2 ^ r : Nat) : Int) % 2 == 1) = b.testBit r := by
 rw [Nat.testBit_eq_decide_div_mod_eq]
 rw [Bool.eq_iff_iff]
 simp only [beq_iff_eq, decide_eq_true_eq]
 omega
theorem div_lt (b : UInt8) (k : Nat) : b.toNat / 2 ^ k < 256 := Nat.lt_of_le_of_lt (Nat.div_le_self _ _) b.toNat_lt
set_option maxHeartbeats 1000000 in
theorem rget_any (s : ByteArray) (i : Int) (w : World) (hs : s.size <= 1000000) (hi : -9223372036854775808 <= i /\ i <= 9223372036854775807) :
  Calls Tryz.prog 65 #[.string s, .int .i64 i] w fun e w' => e = .returned (.bool (gb s.data.toList i)) /\ w = w' := by
 obtain ⟨h1, h2⟩ := hi
 by_cases h0 : 0 <= i
 ·obtain ⟨p, rfl⟩ := Int.eq_ofNat_of_zero_le h0
  rw [gb_nat]
  by_cases hlt : p < 8 * s.size
  ·have hq : p / 8 < s.size := by omega
   have hq0 : (0 : Int) <= (p : Int) / 8 := by omega
   have hq1 : (p : Int) / 8 < (s.size : Int) := by omega
   have hq2 : ((p : Int) / 8).toNat = p / 8 := by omega
   have HB := Lib.hid (bt_at s p hq)
   have HT := Lib.hid (bit_test s[p / 8].toNat (p % 8))
   have hb := s[p / 8].toNat_lt
   go_enter Tryz.func65, Tryz.ntmps65
   go_wp2
   go_loop [5, 6] (fun v k => ∃ j : Nat, j <= p % 8 /\ k = .int .i64 j /\ v = .int .i64 ((s[p / 8].toNat / 2 ^ j : Nat) : Int)) (fun _ k => p % 8 - (intOf k).toNat)
   case atStart => exact ⟨0, Nat.zero_le _, rfl, by simp⟩
   case round =>
    obtain ⟨j, hj, rfl, rfl⟩ := hrel
    have hd := div_lt s[p / 8] j
    by_cases hjl : j < p % 8
    ·have HD := Lib.hid (div_step s[p / 8].toNat j)
     have hm1 : (j : Int) < (p : Int) % 8 := by omega
     obtain ⟨x, hx⟩ : ∃ x, s[p / 8].toNat / 2 ^ j = x := ⟨_, rfl⟩
     rw [hx] at HD hd ⊢
     clear hx
     go_wp2
     go_round
     case rel => exact ⟨j + 1, by omega, by go_num, by rw [<- HD.out]; go_num⟩
     case measure => simp [intOf]; omega
    ·obtain rfl : j = p % 8 := by omega
     obtain ⟨x, hx⟩ : ∃ x, s[p / 8].toNat / 2 ^ (p % 8) = x := ⟨_, rfl⟩
     rw [hx] at HT hd ⊢
     clear hx
     have hm1 : ¬ ((p % 8 : Nat) : Int) < (p : Int) % 8 := by omega
     go_wp2
     go_ret
     exact ⟨ret_bool (by rw [HB.out, <- HT.out]), rfl⟩
  ·have hq1 : ¬ (p : Int) / 8 < (s.size : Int) := by omega
   rw [bt_out _ _ (by rw [str_len]; omega)]
   go_enter Tryz.func65, Tryz.ntmps65
   go_wp2
   go_ret
   exact ⟨rfl, rfl⟩
 ·rw [gb_neg _ _ (by omega)]
  go_enter Tryz.func65, Tryz.ntmps65
  go_wp2
  go_ret
  exact ⟨rfl, rfl⟩
set_option maxHeartbeats 1000000 in
theorem rfirst_any (s : ByteArray) (n : Int) (w : World) (hs : s.size <= 1000000) (hn : -9223372036854775808 <= n /\ n <= 9223372036854775807) :
  Calls Tryz.prog 111 #[.string s, .int .i64 n] w fun e w' => e = .returned (.int .i64 ((fi s.size n : Nat) : Int)) /\ w = w' := by
 go_enter Tryz.func111, Tryz.ntmps111
 go_wp2
 go_ret
 exact ⟨ret_of (show max 0 (min n (8 * (s.size : Int))) = _ by unfold fi; omega), rfl⟩
theorem pow_le64 (j : Nat) (h : j <= 6) : 2 ^ j <= 64 := by
 have : 2 ^ j <= 2 ^ 6 := Nat.pow_le_pow_right (by omega) h
 omega
theorem set1_xor (l : List UInt8) (p : Nat) (on : Bool) (h : p / 8 < l.length) (hb : (bt l p == on) = false) : l.set (p / 8) (l[p / 8] ^^^ UInt8.ofNat (vb p)) = set1 l p on := by
 rw [set1_at l p on h, byte1_xor _ _ _ (Nat.mod_lt _ (by omega)), if_neg]
 ·rfl
 ·intro he
  have : bt l p = on := by
   unfold bt; rw [show l.getD (p / 8) 0 = l[p / 8] by rw [List.getD, List.getElem?_eq_getElem h]; rfl]; exact he
  simp [this] at hb
theorem set1_stay (l : List UInt8) (p : Nat) (on : Bool) (h : p / 8 < l.length) (hb : (bt l p == on) = true) : set1 l p on = l := by
 have hb' : bt l p = on := by simpa using hb
 have h2 : l[p / 8].toNat.testBit (p % 8) = on := by
  unfold bt at hb'; rw [show l.getD (p / 8) 0 = l[p / 8] by rw [List.getD, List.getElem?_eq_getElem h]; rfl] at hb'; exact hb'
 rw [set1_at l p on h, byte1_xor _ _ _ (Nat.mod_lt _ (by omega)), if_pos h2]
 simp
theorem xor_vb (b : UInt8) (p : Nat) : bits .xor .u8 (b.toNat : Int) ((vb p : Nat) : Int) = ((b ^^^ UInt8.ofNat (vb p)).toNat : Int) := by
 rw [u8_xor_nat _ _ b.toNat_lt (vb_lt p), UInt8.toNat_xor]
 simp [Nat.mod_eq_of_lt (vb_lt p)]
set_option maxHeartbeats 2000000 in
theorem one_any (l : List UInt8) (g cap n p : Nat) (on : Bool) (w : World) (hn : n <= 1000000) (hl : Hid (l.length = n)) (hp : p < 8 * n) (h : Hid (FRow w g l)) :
  Calls Tryz.prog 142 #[.slice (some ⟨g, 0, none⟩) n cap, .int .i64 (p : Int), .bool on] w fun e w' => e = .returned (.tuple #[]) /\ FRow w' g (set1 l p on) /\ Below g w w' := by
 have hconv := h.out.text (cap := cap)
 rw [hl.out] at hconv
 have hq : p / 8 < l.length := by rw [hl.out]; omega
 have hq0 : (0 : Int) <= (p : Int) / 8 := by omega
 have hq1 : (p : Int) / 8 < (n : Int) := by omega
 have hq2 : ((p : Int) / 8).toNat = p / 8 := by omega
 have hcell := (h.out _ hq).1
 have hfr := (h.out _ hq).2
 have HG := Lib.hid fun W => rget_any (bs l) p W (by rw [bs_size, hl.out]; exact hn) (by omega)
 rw [gb_nat, bs_data] at HG
 have HP := Lib.hid (h.out.put _ hq (l[p / 8] ^^^ UInt8.ofNat (vb p)))
 have HX := Lib.hid (xor_vb l[p / 8] p)
 have HS1 := Lib.hid fun hb => set1_xor l p on hq hb
 have HS2 := Lib.hid fun hb => set1_stay l p on hq hb
 generalize bt l p = is at *
 generalize hS : bs l = S at *
 clear hS
 go_enter Tryz.func142, Tryz.ntmps142
 go_wp2
 go_loop [6, 7] (fun v k => ∃ j : Nat, j <= p % 8 /\ k = .int .i64 j /\ v = .int .u8 ((2 ^ j : Nat) : Int)) (fun _ k => p % 8 - (intOf k).toNat)
 case atStart => exact ⟨0, Nat.zero_le _, rfl, rfl⟩
 case round =>
  obtain ⟨j, hj, rfl, rfl⟩ := hrel
  by_cases hjl : j < p % 8
  ·have hx1 := pow_le64 j (by omega)
   have HD : Hid (2 ^ (j + 1) = 2 ^ j * 2) := Nat.pow_succ ..
   have hm1 : (j : Int) < (p : Int) % 8 := by omega
   obtain ⟨x, hx⟩ : ∃ x, 2 ^ j = x := ⟨_, rfl⟩
   rw [hx] at HD hx1 ⊢
   clear hx
   go_wp2
   go_round
   case rel => exact ⟨j + 1, by omega, by go_num, by rw [HD.out]; go_num⟩
   case measure => simp [intOf]; omega
  ·obtain rfl : j = p % 8 := by omega
   have hm1 : ¬ ((p % 8 : Nat) : Int) < (p : Int) % 8 := by omega
   rw [show 2 ^ (p % 8) = vb p from rfl]
   have hv := vb_lt p
   cases hb : (is == on)
   ·have hb2 : (is != on) = true := by simp [bne, hb]
    have HS3 := Lib.hid (HS1.out hb)
    clear HS1 HS2
    go_wp2_with (go_at_call 65; refine (HG.out _).mono ?_; rintro e w1 ⟨rfl, rfl⟩)
    rw [HX.out]
    go_end0
    exact ⟨rfl, by rw [<- HS3.out]; exact HP.out, (Below.refl g w).setCell (p := ⟨g, p / 8, none⟩) (Nat.le_refl g) _⟩
   ·have hb2 : (is != on) = false := by simp [bne, hb]
    have HS3 := Lib.hid (HS2.out hb)
    clear HS1 HS2
    go_wp2_with (go_at_call 65; refine (HG.out _).mono ?_; rintro e w1 ⟨rfl, rfl⟩)
    go_end0
    exact ⟨rfl, by rw [HS3.out]; exact h.out, Below.refl _ _⟩
end Go.Proofs.YthambopnmhkeeaaGreat.Bm
/- The document's own Set and Free. -/
set_option maxRecDepth 100000
namespace Go.Proofs.YthambopnmhkeeaaGreat.Bm
open Go.RowKit
set_option maxHeartbeats 2000000 in
theorem rset_yes (s : ByteArray) (a c : Nat) (on : Bool) (w : World) (hs : s.size <= 1000000) (h : a + c <= 8 * s.size) :
  Calls Tryz.prog 79 #[.string s, .int .i64 (a : Int), .int .i64 (c : Int), .bool on] w fun e w' => e = .returned (.tuple #[.string (bs (stL s.data.toList a on c)), .bool true]) /\ Below w.heap.size w w' := by
 obtain ⟨cap, w2, hcv, hrow, hbel, _⟩ := bytes_new w s
 have HR := Lib.hid hrow; clear hrow
 have HB := Lib.hid hbel; clear hbel
 obtain ⟨g, hg⟩ : ∃ g, w.heap.size = g := ⟨_, rfl⟩
 rw [hg] at HR HB hcv ⊢
 have HG := Lib.hid hg; clear hg
 go_enter Tryz.func79, Tryz.ntmps79
 go_wp2
 clear hcv
 go_loopw [12] (fun i wr => ∃ (p : Nat) (l : List UInt8), a <= p /\ p <= a + c /\ i = .int .i64 (p : Int) /\ Hid (l = stL s.data.toList a on (p - a)) /\ Hid (FRow wr g l) /\ Hid (Below g w wr)) (fun i _ => a + c - (intOf i).toNat)
 case atStart => exact ⟨a, s.data.toList, Nat.le_refl _, by omega, rfl, by show _ = _; rw [Nat.sub_self]; rfl, HR, HB⟩
 case round =>
  clear HR HB
  obtain ⟨p, l, hp, hj, rfl, HL, HR, HB⟩ := hrel
  have HLn : Hid (l.length = s.size) := by show _ = _; rw [HL.out, stL_length, str_len]
  by_cases hlt : p < a + c
  ·have HL2 : Hid (set1 l p on = stL s.data.toList a on (p + 1 - a)) := by show _ = _; rw [show p + 1 - a = (p - a) + 1 by omega, stL, <- HL.out, show a + (p - a) = p by omega]
   have HO := Lib.hid (one_any l g cap s.size p on wr hs HLn (by omega) HR)
   go_wp2_with fail
   refine HO.out.mono ?_
   rintro e w3 ⟨rfl, hr3, hb3⟩
   have HR3 := Lib.hid hr3; clear hr3
   have HB3 := Lib.hid (HB.out.trans hb3); clear hb3
   go_wp2
   go_roundw
   case rel => exact ⟨p + 1, _, by omega, by omega, by go_num, HL2, HR3, HB3⟩
   case measure => simp [intOf]; omega
  ·obtain rfl : p = a + c := by omega
   have hconv := HR.out.text (cap := cap)
   rw [HLn.out] at hconv
   have HL3 : Hid (stL s.data.toList a on c = l) := by show _ = _; rw [HL.out, show a + c - a = c by omega]
   go_wp2
   go_ret2
   exact ⟨by rw [HL3.out]; rfl, HB.out⟩
set_option maxHeartbeats 1000000 in
theorem rset_no (s : ByteArray) (a c : Int) (on : Bool) (w : World) (hs : s.size <= 1000000) (ha : -9223372036854775808 <= a /\ a <= 9223372036854775807) (hc : -9223372036854775808 <= c /\ c <= 9223372036854775807) (h : ¬ (0 <= a /\ 0 <= c /\ a + c <= 8 * (s.size : Int))) :
  Calls Tryz.prog 79 #[.string s, .int .i64 a, .int .i64 c, .bool on] w fun e w' => e = .returned (.tuple #[.string ⟨#[]⟩, .bool false]) /\ Below w.heap.size w w' := by
 rcases (show a < 0 \/ (0 <= a /\ c < 0) \/ (0 <= a /\ 0 <= c /\ 8 * (s.size : Int) < c) \/ (0 <= a /\ 0 <= c /\ c <= 8 * (s.size : Int) /\ 8 * (s.size : Int) - c < a) by omega) with h1 | ⟨h1, h2⟩ | ⟨h1, h2, h3⟩ | ⟨h1, h2, h3, h4⟩
 all_goals
  clear h
  go_enter Tryz.func79, Tryz.ntmps79
  go_wp2
  go_ret2
  exact ⟨rfl, Below.refl _ _⟩
theorem rset_any (s : ByteArray) (a c : Int) (on : Bool) (w : World) (hs : s.size <= 1000000) (ha : -9223372036854775808 <= a /\ a <= 9223372036854775807) (hc : -9223372036854775808 <= c /\ c <= 9223372036854775807) :
  Calls Tryz.prog 79 #[.string s, .int .i64 a, .int .i64 c, .bool on] w fun e w' => e = .returned (setV s.data.toList a c on) /\ Below w.heap.size w w' := by
 by_cases h : 0 <= a /\ 0 <= c /\ a + c <= 8 * (s.size : Int)
 ·obtain ⟨x, rfl⟩ := Int.eq_ofNat_of_zero_le h.1
  obtain ⟨y, rfl⟩ := Int.eq_ofNat_of_zero_le h.2.1
  rw [setV_yes _ _ _ _ (by rw [str_len]; omega)]
  exact rset_yes s x y on w hs (by omega)
 ·rw [setV_no (by rw [str_len]; exact h)]
  exact rset_no s a c on w hs ha hc h
set_option maxHeartbeats 1000000 in
theorem rfree_any (s : ByteArray) (n : Int) (w : World) (hs : s.size <= 1000000) (hn : -9223372036854775808 <= n /\ n <= 9223372036854775807) :
  Calls Tryz.prog 59 #[.string s, .int .i64 n] w fun e w' => e = .returned (.int .i64 ((fr s.data.toList (fi s.size n) : Nat) : Int)) /\ w = w' := by
 have hm := fi_le s.size n
 have HF := Lib.hid fun W => rfirst_any s n W hs hn
 generalize fi s.size n = m at *
 go_enter Tryz.func59, Tryz.ntmps59
 go_wp2
 go_loop [5, 6] (fun f i => ∃ k : Nat, k <= m /\ i = .int .i64 k /\ f = .int .i64 ((fr s.data.toList k : Nat) : Int)) (fun _ i => m - (intOf i).toNat)
 case atStart => exact ⟨0, Nat.zero_le _, rfl, rfl⟩
 case round =>
  obtain ⟨k, hk, rfl, rfl⟩ := hrel
  have hle := fr_le s.data.toList k
  by_cases hlt : k < m
  ·have HC1 := Lib.hid fun W => rget_any s k W hs (by omega)
   rw [gb_nat] at HC1
   have HS : Hid (fr s.data.toList (k + 1) = fr s.data.toList k + if bt s.data.toList k = true then 0 else 1) := rfl
   cases hbt : bt s.data.toList k
   all_goals
    rw [hbt] at HC1 HS
    clear hbt
    go_wp2_with (first | (go_at_call 111; refine (HF.out _).mono ?_; rintro e w2 ⟨rfl, rfl⟩) | (go_at_call 65; refine (HC1.out _).mono ?_; rintro e w2 ⟨rfl, rfl⟩))
    go_round
    case rel => exact ⟨k + 1, by omega, by go_num, by rw [HS.out]; first | rfl | go_num⟩
    case measure => simp [intOf]; omega
  ·obtain rfl : k = m := by omega
   go_wp2_with (first | (go_at_call 111; refine (HF.out _).mono ?_; rintro e w2 ⟨rfl, rfl⟩))
   go_ret
   exact ⟨rfl, rfl⟩
end Go.Proofs.YthambopnmhkeeaaGreat.Bm
/- Rows of extents of one's own; slices of extents as what is there to be read. -/
namespace Go.Proofs.YthambopnmhkeeaaGreat.Bm
open Go.RowKit
def flatX : List (Nat × Nat) -> List Value
 | [] => []
 | x :: r => .int .i64 ((x.1 : Nat) : Int) :: .int .i64 ((x.2 : Nat) : Int) :: flatX r
theorem flatX_length (l : List (Nat × Nat)) : (flatX l).length = l.length * 2 := by
 induction l with
 | nil => rfl
 | cons x r ih => simp [flatX, ih]; omega
theorem flatX_append (l m : List (Nat × Nat)) : flatX (l ++ m) = flatX l ++ flatX m := by
 induction l with
 | nil => rfl
 | cons x r ih => simp [flatX, ih]
theorem flatX_fst (l : List (Nat × Nat)) (i : Nat) (h : i < l.length) : (flatX l)[i * 2]? = some (.int .i64 ((l[i].1 : Nat) : Int)) := by
 induction l generalizing i with
 | nil => cases h
 | cons x r ih =>
  cases i with
  | zero => rfl
  | succ j =>
   have e : (j + 1) * 2 = j * 2 + 1 + 1 := by omega
   rw [e]; simpa [flatX] using ih j (by simpa using h)
theorem flatX_snd (l : List (Nat × Nat)) (i : Nat) (h : i < l.length) : (flatX l)[i * 2 + 1]? = some (.int .i64 ((l[i].2 : Nat) : Int)) := by
 induction l generalizing i with
 | nil => cases h
 | cons x r ih =>
  cases i with
  | zero => rfl
  | succ j =>
   have e : (j + 1) * 2 + 1 = j * 2 + 1 + 1 + 1 := by omega
   rw [e]; simpa [flatX] using ih j (by simpa using h)
theorem flatX_last (l : List (Nat × Nat)) (s c d : Nat) : (flatX (l ++ [(s, c)])).set (l.length * 2 + 1) (.int .i64 ((d : Nat) : Int)) = flatX (l ++ [(s, d)]) := by
 rw [flatX_append, flatX_append, List.set_append_right _ _ (by rw [flatX_length]; omega), flatX_length, show l.length * 2 + 1 - l.length * 2 = 1 by omega]
 rfl
def ExtsAt (w : World) (b off : Nat) (L : List (Nat × Nat)) : Prop := ∀ j (h : j < L.length), w.cell? ⟨b, off + j * 2, none⟩ = some (.int .i64 ((L[j].1 : Nat) : Int)) /\ w.cell? ⟨b, off + j * 2 + 1, none⟩ = some (.int .i64 ((L[j].2 : Nat) : Int))
def SlX (w : World) (v : Value) (L : List (Nat × Nat)) : Prop := ∃ ao c, v = .slice ao L.length c /\ (L = [] \/ ∃ b off, ao = some ⟨b, off, none⟩ /\ b < w.heap.size /\ ExtsAt w b off L)
theorem SlX.here {w : World} {v : Value} {L : List (Nat × Nat)} (h : SlX w v L) (h0 : 0 < L.length) : ∃ b off c, v = .slice (some ⟨b, off, none⟩) L.length c /\ b < w.heap.size /\ ExtsAt w b off L := by
 obtain ⟨ao, c, hv, h⟩ := h
 rcases h with h | ⟨b, off, rfl, hb, h⟩
 ·subst h; simp at h0
 ·exact ⟨b, off, c, hv, hb, h⟩
theorem SlX.below {w w' : World} {v : Value} {L : List (Nat × Nat)} (h : SlX w v L) (hb : Below w.heap.size w w') : SlX w' v L := by
 obtain ⟨ao, c, hv, h⟩ := h
 refine ⟨ao, c, hv, ?_⟩
 rcases h with h | ⟨b, off, e, hlt, h⟩
 ·exact .inl h
 ·exact .inr ⟨b, off, e, Nat.lt_of_lt_of_le hlt hb.size, fun j hj => ⟨(hb.cell (p := ⟨b, off + j * 2, none⟩) hlt).trans (h j hj).1, (hb.cell (p := ⟨b, off + j * 2 + 1, none⟩) hlt).trans (h j hj).2⟩⟩
def OwnX (B : Nat) (w : World) (v : Value) (L : List (Nat × Nat)) : Prop := w.ownsRow B 75 2 v L.length (flatX L)
theorem own_below {B : Nat} {e : TypeId} {k : Nat} {v : Value} {n : Nat} {xs : List Value} {w w' : World} (h : w.ownsRow B e k v n xs) (hb : Below w.heap.size w w') : w'.ownsRow B e k v n xs := by
 refine ⟨h.1, ?_⟩
 rcases h.2 with hn | ⟨g, cap, cur, rfl, hbg, hg, rest⟩
 ·exact .inl hn
 ·exact .inr ⟨g, cap, cur, rfl, hbg, by rw [hb.block g (Array.getElem?_eq_some_iff.1 hg).1]; exact hg, rest⟩
theorem OwnX.below {B : Nat} {w w' : World} {v : Value} {L : List (Nat × Nat)} (h : OwnX B w v L) (hb : Below w.heap.size w w') : OwnX B w' v L := own_below h hb
theorem OwnX.nil (B : Nat) (w : World) : OwnX B w (.slice none 0 0) [] := World.ownsRow_nil _ _ _ _
theorem OwnX.here {B : Nat} {w : World} {v : Value} {L : List (Nat × Nat)} (h : OwnX B w v L) (h0 : 0 < L.length) : ∃ g c, v = .slice (some ⟨g, 0, none⟩) L.length c /\ L.length <= c /\ B <= g /\ g < w.heap.size /\ ExtsAt w g 0 L /\ ∀ j, w.frozen? ⟨g, j, none⟩ = false := by
 have hO := h
 rcases h.2 with ⟨_, hn⟩ | ⟨g, cap, cur, rfl, hbg, hg, hc, _⟩
 ·omega
 ·refine ⟨g, cap, rfl, hc, hbg, (Array.getElem?_eq_some_iff.1 hg).1, fun j hj => ?_, fun j => World.ownsRow.frozenAt hO j⟩
  rw [Nat.zero_add, World.ownsRow.cellAt hO (j * 2) (by omega), World.ownsRow.cellAt hO (j * 2 + 1) (by omega)]
  exact ⟨flatX_fst L j hj, flatX_snd L j hj⟩
theorem OwnX.sl {B : Nat} {w : World} {v : Value} {L : List (Nat × Nat)} (h : OwnX B w v L) : SlX w v L := by
 by_cases h0 : 0 < L.length
 ·obtain ⟨g, c, hv, hc, _, hg, hs, _⟩ := h.here h0
  exact ⟨_, c, hv, .inr ⟨g, 0, rfl, hg, hs⟩⟩
 ·have e : L = [] := List.eq_nil_of_length_eq_zero (by omega)
  subst e
  rcases h.2 with ⟨hv, _⟩ | ⟨g, cap, cur, hv, _⟩
  ·exact ⟨_, 0, hv, .inl rfl⟩
  ·exact ⟨_, cap, hv, .inl rfl⟩
theorem OwnX.form {B : Nat} {w : World} {v : Value} {L : List (Nat × Nat)} (h : OwnX B w v L) : ∃ ao c, v = .slice ao L.length c := by
 obtain ⟨ao, c, hv, _⟩ := h.sl
 exact ⟨ao, c, hv⟩
theorem OwnX.last {B : Nat} {w : World} {v : Value} {L : List (Nat × Nat)} {s c : Nat} (h : OwnX B w v (L ++ [(s, c)])) : ∃ g cap, v = .slice (some ⟨g, 0, none⟩) (L.length + 1) cap /\ B <= g /\ w.cell? ⟨g, L.length * 2 + 1, none⟩ = some (.int .i64 (c : Int)) /\ w.frozen? ⟨g, L.length * 2 + 1, none⟩ = false /\
  OwnX B (w.setCell ⟨g, L.length * 2 + 1, none⟩ (.int .i64 ((c : Int) + 1))) v (L ++ [(s, c + 1)]) := by
 obtain ⟨g, cap, hv, hc, hB, hg, ha, hf⟩ := h.here (by simp)
 subst hv
 have hst := (World.ownsRow.stored h (L.length * 2 + 1) (.int .i64 ((c : Int) + 1))).1
 refine ⟨g, cap, by simp, hB, ?_, hf _, ?_⟩
 ·have := (ha L.length (by simp)).2
  simpa using this
 ·unfold OwnX
  rw [<- flatX_last L s c (c + 1)]
  simpa using hst
theorem OwnX.push {B : Nat} {w1 : World} {v1 : Value} {M : List (Nat × Nat)} {s c : Nat} (hown : w1.ownsRow B 75 2 v1 (M.length + 1) (flatX M ++ [.int .i64 (s : Int), .int .i64 (c : Int)])) : OwnX B w1 v1 (M ++ [(s, c)]) := by
 unfold OwnX
 rw [List.length_append, flatX_append]
 exact hown
theorem add_at (b off j : Nat) : (⟨b, off, none⟩ : Addr).add j = ⟨b, off + j, none⟩ := by unfold Addr.add; split <;> simp_all
theorem cell_at {w : World} {b : Nat} {vs : Array Value} {e : TypeId} {m : Nat × Nat} (h : w.heap[b]? = some (.cells vs e m)) (k : Nat) : w.cell? ⟨b, k, none⟩ = vs[k]? := by
 simp [World.cell?, h]
theorem two_cells {w : World} {t : TypeId} {i s : Int} {g : Nat} (hg : w.heap.size = g) : ∀ (j : Nat) (u : Value), [Value.int .i64 i, Value.int .i64 s][j]? = some u -> (w.alloc (.cells #[.int .i64 i, .int .i64 s] t)).cell? ((⟨g, 0, none⟩ : Addr).add j) = some u := by
 subst hg
 intro j u hu
 rw [add_at, Nat.zero_add, cell_at (heap_alloc_new ..)]
 rw [<- hu]; simp
theorem two_one {i s : Int} : ∀ u ∈ [Value.int .i64 i, Value.int .i64 s], u.oneCell' = true := by
 intro u hu
 simp only [List.mem_cons, List.not_mem_nil, or_false] at hu
 rcases hu with rfl | rfl <;> rfl
theorem _root_.Go.Proofs.Tryz.infoX : (Tryz.prog.info? 75).map (fun i => (i.zero, i.size, i.bytes)) = some (some (.agg #[.int .i64 0, .int .i64 0]), 2, 16) := by kernel_rfl
end Go.Proofs.YthambopnmhkeeaaGreat.Bm
/- What Runs answers: what is free, as extents. -/
set_option maxRecDepth 100000
namespace Go.Proofs.YthambopnmhkeeaaGreat.Bm
open Go.RowKit
theorem rs_used {l : List UInt8} {k : Nat} (h : bt l k = true) : rs l (k + 1) = rs l k := by rw [rs, if_pos h]
theorem rs_new {l : List UInt8} {k : Nat} (h : bt l k = false) (hp : k = 0 \/ bt l (k - 1) = true) : rs l (k + 1) = rs l k ++ [(k, 1)] := by rw [rs, if_neg (by simp [h]), if_pos hp, bump_snoc]
theorem rs_more {l : List UInt8} {k : Nat} (h : bt l k = false) (h0 : 0 < k) (hp : bt l (k - 1) = false) : ∃ R s c, rs l k = R ++ [(s, c)] /\ s + c = k /\ rs l (k + 1) = R ++ [(s, c + 1)] := by
 have ih := rs_ok l k
 rcases List.eq_nil_or_concat (rs l k) with he | ⟨R, x, he⟩
 ·rw [he] at ih
  have := ih (k - 1) (by omega) (by omega)
  rw [hp] at this; cases this
 ·rw [List.concat_eq_append] at he
  refine ⟨R, x.1, x.2, he, ?_, ?_⟩
  ·rw [he] at ih
   have hb := RO.bump (s := x.1) (c := x.2) ih h0 h hp
   have h2 : ∀ (R : List (Nat × Nat)) (e : Int) (m s c : Nat), RO l m e (R ++ [(s, c)]) -> bt l (m - 1) = false -> 0 < m -> s + c = m := by
    intro R
    induction R with
    | nil =>
     rintro e m s c ⟨h1, h2, h3, h4, h5, h6, h7, h8⟩ hm h0
     simp only at h1 h2 h3 h7 h8
     by_cases e1 : s + c = m
     ·exact e1
     ·exfalso
      have h9 := h7 (by omega)
      by_cases e2 : s + c = m - 1
      ·rw [e2, hm] at h9; cases h9
      ·have := h8 (m - 1) (by omega) (by omega)
       rw [hm] at this; cases this
    | cons y R ih =>
     rintro e m s c ⟨h1, h2, h3, h4, h5, h6, h7, h8⟩ hm h0
     exact ih _ m s c h8 hm h0
   exact h2 R (-1) k x.1 x.2 ih hp h0
  ·have hn : ¬ (k = 0 \/ bt l (k - 1) = true) := by rw [hp]; simp; omega
   rw [rs, if_neg (by simp [h]), if_neg hn, he]
   exact bump_snoc R x.1 x.2
theorem own_lessX {B B' : Nat} {w : World} {v : Value} {L : List (Nat × Nat)} (h : OwnX B w v L) (hb : B' <= B) : OwnX B' w v L := by
 refine ⟨h.1, ?_⟩
 rcases h.2 with hn | ⟨g, cap, cur, rfl, hbg, rest⟩
 ·exact .inl hn
 ·exact .inr ⟨g, cap, cur, rfl, Nat.le_trans hb hbg, rest⟩
set_option maxHeartbeats 1000000 in
theorem runs_own (s : ByteArray) (n : Int) (w : World) (hs : s.size <= 1000000) (hn : -9223372036854775808 <= n /\ n <= 9223372036854775807) :
  Calls Tryz.prog 64 #[.string s, .int .i64 n] w fun e w' => ∃ v, e = .returned v /\ OwnX w.heap.size w' v (rs s.data.toList (fi s.size n)) /\ Below w.heap.size w w' := by
 obtain ⟨i0, hi, hz0, hz1, hz2⟩ := info_parts Tryz.infoX
 have HZ2 := Lib.hid hz2; clear hz2
 have hm := fi_le s.size n
 have HF := Lib.hid fun W => first_any s n W hs hn
 generalize fi s.size n = m at *
 obtain ⟨l, hl⟩ : ∃ l, s.data.toList = l := ⟨_, rfl⟩
 rw [hl]
 have HLs := Lib.hid hl; clear hl
 go_enter Tryz.func64, Tryz.ntmps64
 go_wp2_with fail
 refine (bitsOf_any _ _).mono ?_
 rintro e w1 ⟨b, rfl, hb1, hb2, hc, hbel⟩
 have HB := Lib.hid hbel; clear hbel
 have HC := Lib.hid hc; clear hc
 go_wp2_with fail
 refine (HF.out _).mono ?_
 rintro e w2 ⟨rfl, rfl⟩
 clear HF
 obtain ⟨B, hB⟩ : ∃ B, w1.heap.size = B := ⟨_, rfl⟩
 rw [hB] at hb2
 have HBs := Lib.hid hB; clear hB
 go_wp2
 go_loopw [6, 13] (fun v i wr => ∃ (k : Nat) (R : List (Nat × Nat)), k <= m /\ i = .int .i64 k /\ Hid (R = rs l k) /\ Hid (OwnX B wr v R) /\ Hid (Below B w1 wr)) (fun _ i _ => m - (intOf i).toNat)
 case atStart => exact ⟨0, [], Nat.zero_le _, rfl, rfl, OwnX.nil _ _, Below.refl _ _⟩
 case round =>
  obtain ⟨k, R, hk, rfl, HR, HO, HW⟩ := hrel
  have hlen : R.length <= k := by rw [HR.out]; exact rs_len _ _
  obtain ⟨ao, c, rfl⟩ := HO.out.form
  have HC2 : Hid (wr.cell? ⟨b, 0, none⟩ = some (.string s)) := (HW.out.cell (p := ⟨b, 0, none⟩) hb2).trans HC.out
  by_cases hlt : k < m
  ·have HC1 := Lib.hid fun h => bits1_any s k b wr hs h HC2.out
   rw [gb_nat, HLs.out] at HC1
   cases hbt : bt l k
   ·have HBT := Lib.hid hbt
    rw [hbt] at HC1
    clear hbt
    by_cases hk0 : k = 0
    ·subst hk0
     have HN := Lib.hid (rs_new HBT.out (.inl rfl))
     rw [<- HR.out] at HN
     go_wp2_with fail
     refine (HC1.out (by omega)).mono ?_
     rintro e w2 ⟨rfl, q, rfl⟩
     clear HC1
     have HWx : Hid (Below B w1 (wr.drewN q)) := below_drewN HW.out _
     have HOx : Hid (OwnX B ((wr.drewN q)) (.slice ao R.length c) R) := HO.out
     clear HO HW HC2
     generalize (wr.drewN q) = wx at *
     have hbx : B <= wx.heap.size := by rw [<- HBs.out]; exact HWx.out.size
     go_wp2_with (at_builtin; (refine wpList_append_own _ rfl _ _ 53 rfl B 75 i0 _ 2 16 Tryz.underlying53 hi hz0 hz1 HZ2.out rfl (by decide) _ R.length (flatX R) rfl (HOx.out.alloc _) _ 1 1 [.int .i64 (0 : Int), .int .i64 0] rfl rfl (two_cells (by simp)) two_one ?c23 ?c24 ?c25 ?_))
     case c23 => unfold maxLen; omega
     case c24 => omega
     case c25 => simp; omega
     intro v1 w3 hown hgrow _
     have HO3 : Hid (OwnX B w3 v1 (R ++ [(0, 0)])) := OwnX.push hown
     have HW3 : Hid (Below B w1 w3) := (HWx.out.alloc hbx _).grown hgrow (by simp; omega) (fun q hq => (HOx.out.lt q hq).1)
     clear hown hgrow
     obtain ⟨g, cap, rfl, hgB, hcl, hfr, ho4⟩ := HO3.out.last
     have HO4 := Lib.hid ho4; clear ho4
     go_wp2
     go_roundw
     case rel => exact ⟨0 + 1, _, by omega, by go_num, HN.out.symm, HO4.out, HW3.out.setCell hgB _⟩
     case measure => simp [intOf]; omega
    ·have HC3 := Lib.hid fun h q => bits1_any s ((k : Int) - 1) b (wr.drewN q) hs h HC2.out
     rw [show ((k : Int) - 1) = ((k - 1 : Nat) : Int) by omega, gb_nat, HLs.out, show ((k - 1 : Nat) : Int) = (k : Int) - 1 by omega] at HC3
     have hk1 : ((k : Int) == 0) = false := beq_eq_false_iff_ne.2 (by omega)
     cases hbp : bt l (k - 1)
     ·obtain ⟨R0, s0, c0, h1, h2, h3⟩ := rs_more HBT.out (by omega) hbp
      rw [hbp] at HC3
      have HN := Lib.hid h3
      have HRe : R = R0 ++ [(s0, c0)] := by rw [HR.out]; exact h1
      subst HRe
      clear hbp h1 h3
      have hx : c0 <= k := by omega
      obtain ⟨g, cap, hv, hgB, hcl, hfr, ho4⟩ := HO.out.last
      have HO4 := Lib.hid ho4; clear ho4
      have HV := Lib.hid hv
      rw [hv] at HO4 ⊢
      clear hv HO
      have hl0 : R0.length <= k := by simp at hlen; omega
      go_wp2_with fail
      refine (HC1.out (by omega)).mono ?_
      rintro e w2 ⟨rfl, q, rfl⟩
      clear HC1
      go_wp2_with fail
      refine (HC3.out (by omega) q).mono ?_
      rintro e w2 ⟨rfl, q2, rfl⟩
      clear HC3
      go_wp2
      go_roundw
      case rel => exact ⟨k + 1, _, by omega, by go_num, HN.out.symm, HO4.out, (below_drewN HW.out _).setCell (p := ⟨g, R0.length * 2 + 1, none⟩) hgB _⟩
      case measure => simp [intOf]; omega
     ·have HN := Lib.hid (rs_new HBT.out (.inr hbp))
      rw [hbp] at HC3
      rw [<- HR.out] at HN
      clear hbp
      go_wp2_with fail
      refine (HC1.out (by omega)).mono ?_
      rintro e w2 ⟨rfl, q, rfl⟩
      clear HC1
      go_wp2_with fail
      refine (HC3.out (by omega) q).mono ?_
      rintro e w2 ⟨rfl, q2, rfl⟩
      clear HC3
      have HWx : Hid (Below B w1 ((wr.drewN q).drewN q2)) := below_drewN (below_drewN HW.out _) _
      have HOx : Hid (OwnX B (((wr.drewN q).drewN q2)) (.slice ao R.length c) R) := HO.out
      clear HO HW HC2
      generalize ((wr.drewN q).drewN q2) = wx at *
      have hbx : B <= wx.heap.size := by rw [<- HBs.out]; exact HWx.out.size
      go_wp2_with (at_builtin; (refine wpList_append_own _ rfl _ _ 53 rfl B 75 i0 _ 2 16 Tryz.underlying53 hi hz0 hz1 HZ2.out rfl (by decide) _ R.length (flatX R) rfl (HOx.out.alloc _) _ 1 1 [.int .i64 (k : Int), .int .i64 0] rfl rfl (two_cells (by simp)) two_one ?c13 ?c14 ?c15 ?_))
      case c13 => unfold maxLen; omega
      case c14 => omega
      case c15 => simp; omega
      intro v1 w3 hown hgrow _
      have HO3 : Hid (OwnX B w3 v1 (R ++ [(k, 0)])) := OwnX.push hown
      have HW3 : Hid (Below B w1 w3) := (HWx.out.alloc hbx _).grown hgrow (by simp; omega) (fun q hq => (HOx.out.lt q hq).1)
      clear hown hgrow
      obtain ⟨g, cap, rfl, hgB, hcl, hfr, ho4⟩ := HO3.out.last
      have HO4 := Lib.hid ho4; clear ho4
      go_wp2
      go_roundw
      case rel => exact ⟨k + 1, _, by omega, by go_num, HN.out.symm, HO4.out, HW3.out.setCell hgB _⟩
      case measure => simp [intOf]; omega
   ·have HN := Lib.hid (rs_used hbt)
    rw [hbt] at HC1
    clear hbt
    go_wp2_with (go_at_call 164; refine (HC1.out (by omega)).mono ?_; rintro e w2 ⟨rfl, q, rfl⟩)
    go_roundw
    case rel => exact ⟨k + 1, R, by omega, by go_num, by show _ = _; rw [HN.out]; exact HR.out, HO.out, below_drewN HW.out _⟩
    case measure => simp [intOf]; omega
  ·obtain rfl : k = m := by omega
   go_wp2
   go_ret
   exact ⟨_, rfl, by rw [<- HR.out]; exact own_lessX HO.out (by rw [<- HBs.out]; exact HB.out.size), HB.out.trans (HW.out.mono (by rw [<- HBs.out]; exact HB.out.size))⟩
end Go.Proofs.YthambopnmhkeeaaGreat.Bm
