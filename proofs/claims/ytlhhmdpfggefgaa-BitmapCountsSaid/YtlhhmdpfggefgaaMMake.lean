/- What Make answers, and the document's own Make, Get, one, Set, first, Free. -/
import Derived.Test.YtlhhmdpfggefgaaMSet
import Derived.Test.YtlhhmdpfggefgaaShelf
import Derived.OneCell
namespace Go.Proofs.Ytlhhmdpfggefgaa
open Go.RowKit

theorem repeat_zero (c : Nat) : Lib.repeatL [0] c = List.replicate c 0 := by
  induction c with
  | zero => rfl
  | succ c ih => rw [Lib.repeatL, ih, List.replicate_succ]; rfl
theorem noughts_any (x : Int) (c : Nat) (w : World) (h : x = (c : Int)) (h1 : 1 ≤ c) (hc : c ≤ 5000) :
    Calls Try.prog 26 #[.string ⟨#[0]⟩, .int .i64 x] w fun e w' => e = .returned (.string (bs (List.replicate c 0))) ∧ Below w.heap.size w w' := by
  subst h
  by_cases h2 : 2 ≤ c
  · refine (Try.strings_Repeat_main ⟨#[0]⟩ c w h2 (by omega) ?_ (by decide)).mono fun e w' ⟨he, hb⟩ => ⟨?_, hb⟩
    · show 1 * c ≤ _; omega
    · rw [he]; show Ending.returned (.string (bs (Lib.repeatL [0] c))) = _; rw [repeat_zero]
  · obtain rfl : c = 1 := by omega
    refine (Try.strings_Repeat_one ⟨#[0]⟩ w).mono fun e w' ⟨he, hb⟩ => ⟨he, by rw [hb]; exact Below.refl _ _⟩
/-- What Make answers. -/
def makeS (n : Int) : ByteArray := if 1 ≤ n ∧ n ≤ 32768 then bs (List.replicate ((n.toNat + 7) / 8) 0) else ⟨#[]⟩
set_option maxHeartbeats 1000000 in
theorem make_any (n : Int) (w : World) (hn : -9223372036854775808 ≤ n ∧ n ≤ 9223372036854775807) :
    Calls Try.prog 12 #[.int .i64 n] w fun e w' => e = .returned (.string (makeS n)) ∧ Below w.heap.size w w' := by
  by_cases h : 1 ≤ n ∧ n ≤ 32768
  · obtain ⟨h1, h2⟩ := h
    have HE : Hid (makeS n = bs (List.replicate ((n.toNat + 7) / 8) 0)) := if_pos ⟨h1, h2⟩
    have HN := Lib.hid fun W => noughts_any ((n + 7) / 8) ((n.toNat + 7) / 8) W (by omega) (by omega) (by omega)
    rw [HE.out]
    generalize bs (List.replicate ((n.toNat + 7) / 8) 0) = T at *
    go_enter Try.func12, Try.ntmps12
    go_wp2_with fail
    refine (HN.out _).mono ?_
    rintro e w1 ⟨rfl, hb⟩
    have HB := Lib.hid hb; clear hb
    go_wp2
    go_ret
    exact ⟨rfl, HB.out⟩
  · have HE : Hid (makeS n = ⟨#[]⟩) := if_neg h
    rw [HE.out]
    rcases (show n < 1 ∨ (1 ≤ n ∧ 32768 < n) by omega) with h1 | ⟨h1, h2⟩
    all_goals
      clear h
      go_enter Try.func12, Try.ntmps12
      go_wp2
      go_ret
      exact ⟨rfl, Below.refl _ _⟩

theorem zero_text {B : Nat} {w : World} {g n : Nat} (h : w.ownsRow B 5 1 (.slice (some ⟨g, 0, none⟩) n n) n (List.replicate n (.int .u8 0))) :
    (convert 40 9 (.slice (some ⟨g, 0, none⟩) n n)).run Try.prog w = .ok (.string (bs (List.replicate n 0))) w := by
  have e : bs (List.replicate n 0) = strOfNums (List.replicate n 0) := by
    unfold bs strOfNums
    rw [List.map_replicate]; rfl
  rw [e]
  refine run_convert_bytes_arg w 40 5 Try.underlying40 Try.underlying5 g 0 n n (List.replicate n 0) (by simp) ?_ 9 Try.underlying9
  intro i hi
  rw [Nat.zero_add, World.ownsRow.cellAt h i (by omega)]
  simp [List.getD, hi]
theorem _root_.Go.Proofs.Try.infoB : (Try.prog.info? 5).map (fun i => (i.zero, i.size, i.bytes)) = some (some (.int .u8 0), 1, 1) := by kernel_rfl
set_option maxHeartbeats 1000000 in
theorem rmake_any (n : Int) (w : World) (hn : -9223372036854775808 ≤ n ∧ n ≤ 9223372036854775807) :
    Calls Try.prog 13 #[.int .i64 n] w fun e w' => e = .returned (.string (makeS n)) ∧ Below w.heap.size w w' := by
  obtain ⟨i0, hi, hz0, hz1, hz2⟩ := info_parts Try.infoB
  have HZ2 := Lib.hid hz2; clear hz2
  by_cases h : 1 ≤ n ∧ n ≤ 32768
  · obtain ⟨h1, h2⟩ := h
    have HE : Hid (makeS n = bs (List.replicate ((n.toNat + 7) / 8) 0)) := if_pos ⟨h1, h2⟩
    obtain ⟨m, hm⟩ : ∃ m, (n.toNat + 7) / 8 = m := ⟨_, rfl⟩
    have HMT : Hid ((n + 7) / 8 = (m : Int)) := by show _ = _; omega
    have hm2 : m ≤ 5000 := by omega
    obtain ⟨Z, hZ⟩ : ∃ Z, bs (List.replicate m 0) = Z := ⟨_, rfl⟩
    rw [HE.out, hm, hZ]
    have HZ := Lib.hid hZ; clear hZ
    clear HE hm
    go_enter Try.func13, Try.ntmps13
    go_wp2_with (at_make; refine wpList_make_full _ rfl _ _ 40 rfl w.heap.size 5 i0 (.int .u8 0) 1 Try.underlying40 hi hz0 hz1 _ _ _ _ m rfl rfl HMT.out HMT.out (by rw [HZ2.out]; omega) (by unfold maxLen; omega) (Nat.le_refl _) ?_)
    intro w1 hown hgrow
    rw [toList_madeCells_one] at hown
    have hconv := zero_text hown
    rw [HZ.out] at hconv
    have HB1 : Hid (Below w.heap.size w w1) := (Below.refl _ _).grown hgrow (Nat.le_refl _) (fun k h => by cases h)
    clear hown hgrow
    go_wp2
    go_ret
    exact ⟨rfl, HB1.out⟩
  · have HE : Hid (makeS n = ⟨#[]⟩) := if_neg h
    rw [HE.out]
    rcases (show n < 1 ∨ (1 ≤ n ∧ 32768 < n) by omega) with h1 | ⟨h1, h2⟩
    all_goals
      clear h
      go_enter Try.func13, Try.ntmps13
      go_wp2
      go_ret
      exact ⟨rfl, Below.refl _ _⟩

theorem div_step (b k : Nat) : b / 2 ^ k / 2 = b / 2 ^ (k + 1) := by rw [Nat.div_div_eq_div_mul, Nat.pow_succ]
theorem bit_test (b r : Nat) : (((b / 2 ^ r : Nat) : Int) % 2 == 1) = b.testBit r := by
  rw [Nat.testBit_eq_decide_div_mod_eq]
  rw [Bool.eq_iff_iff]
  simp only [beq_iff_eq, decide_eq_true_eq]
  omega
theorem div_lt (b : UInt8) (k : Nat) : b.toNat / 2 ^ k < 256 := Nat.lt_of_le_of_lt (Nat.div_le_self _ _) b.toNat_lt
set_option maxRecDepth 100000 in
set_option maxHeartbeats 1000000 in
theorem rget_any (s : ByteArray) (i : Int) (w : World) (hs : s.size ≤ 1000000) (hi : -9223372036854775808 ≤ i ∧ i ≤ 9223372036854775807) :
    Calls Try.prog 15 #[.string s, .int .i64 i] w fun e w' => e = .returned (.bool (gb s.data.toList i)) ∧ w = w' := by
  obtain ⟨h1, h2⟩ := hi
  by_cases h0 : 0 ≤ i
  · obtain ⟨p, rfl⟩ := Int.eq_ofNat_of_zero_le h0
    rw [gb_nat]
    by_cases hlt : p < 8 * s.size
    · have hq : p / 8 < s.size := by omega
      have hq0 : (0 : Int) ≤ (p : Int) / 8 := by omega
      have hq1 : (p : Int) / 8 < (s.size : Int) := by omega
      have hq2 : ((p : Int) / 8).toNat = p / 8 := by omega
      have HB := Lib.hid (bt_at s p hq)
      have HT := Lib.hid (bit_test s[p / 8].toNat (p % 8))
      have hb := s[p / 8].toNat_lt
      go_enter Try.func15, Try.ntmps15
      go_wp2
      go_loop [5, 6] (fun v k => ∃ j : Nat, j ≤ p % 8 ∧ k = .int .i64 j ∧ v = .int .i64 ((s[p / 8].toNat / 2 ^ j : Nat) : Int)) (fun _ k => p % 8 - (intOf k).toNat)
      case atStart => exact ⟨0, Nat.zero_le _, rfl, by simp⟩
      case round =>
        obtain ⟨j, hj, rfl, rfl⟩ := hrel
        have hd := div_lt s[p / 8] j
        by_cases hjl : j < p % 8
        · have HD := Lib.hid (div_step s[p / 8].toNat j)
          have hm1 : (j : Int) < (p : Int) % 8 := by omega
          obtain ⟨x, hx⟩ : ∃ x, s[p / 8].toNat / 2 ^ j = x := ⟨_, rfl⟩
          rw [hx] at HD hd ⊢
          clear hx
          go_wp2
          go_round
          case rel => exact ⟨j + 1, by omega, by go_num, by rw [← HD.out]; go_num⟩
          case measure => simp [intOf]; omega
        · obtain rfl : j = p % 8 := by omega
          obtain ⟨x, hx⟩ : ∃ x, s[p / 8].toNat / 2 ^ (p % 8) = x := ⟨_, rfl⟩
          rw [hx] at HT hd ⊢
          clear hx
          have hm1 : ¬ ((p % 8 : Nat) : Int) < (p : Int) % 8 := by omega
          go_wp2
          go_ret
          exact ⟨ret_bool (by rw [HB.out, ← HT.out]), rfl⟩
    · have hq1 : ¬ (p : Int) / 8 < (s.size : Int) := by omega
      rw [bt_out _ _ (by rw [str_len]; omega)]
      go_enter Try.func15, Try.ntmps15
      go_wp2
      go_ret
      exact ⟨rfl, rfl⟩
  · rw [gb_neg _ _ (by omega)]
    go_enter Try.func15, Try.ntmps15
    go_wp2
    go_ret
    exact ⟨rfl, rfl⟩
set_option maxHeartbeats 1000000 in
theorem rfirst_any (s : ByteArray) (n : Int) (w : World) (hs : s.size ≤ 1000000) (hn : -9223372036854775808 ≤ n ∧ n ≤ 9223372036854775807) :
    Calls Try.prog 29 #[.string s, .int .i64 n] w fun e w' => e = .returned (.int .i64 ((fi s.size n : Nat) : Int)) ∧ w = w' := by
  go_enter Try.func29, Try.ntmps29
  go_wp2
  go_ret
  exact ⟨ret_of (show max 0 (min n (8 * (s.size : Int))) = _ by unfold fi; omega), rfl⟩

theorem pow_le64 (j : Nat) (h : j ≤ 6) : 2 ^ j ≤ 64 := by
  have : 2 ^ j ≤ 2 ^ 6 := Nat.pow_le_pow_right (by omega) h
  omega
theorem set1_xor (l : List UInt8) (p : Nat) (on : Bool) (h : p / 8 < l.length) (hb : (bt l p == on) = false) : l.set (p / 8) (l[p / 8] ^^^ UInt8.ofNat (vb p)) = set1 l p on := by
  rw [set1_at l p on h, byte1_xor _ _ _ (Nat.mod_lt _ (by omega)), if_neg]
  · rfl
  · intro he
    have : bt l p = on := by
      unfold bt; rw [show l.getD (p / 8) 0 = l[p / 8] by rw [List.getD, List.getElem?_eq_getElem h]; rfl]; exact he
    simp [this] at hb
theorem set1_stay (l : List UInt8) (p : Nat) (on : Bool) (h : p / 8 < l.length) (hb : (bt l p == on) = true) : set1 l p on = l := by
  have hb' : bt l p = on := by simpa using hb
  have h2 : l[p / 8].toNat.testBit (p % 8) = on := by
    unfold bt at hb'; rw [show l.getD (p / 8) 0 = l[p / 8] by rw [List.getD, List.getElem?_eq_getElem h]; rfl] at hb'; exact hb'
  rw [set1_at l p on h, byte1_xor _ _ _ (Nat.mod_lt _ (by omega)), if_pos h2]
  simp
theorem xor_vb (b : UInt8) (p : Nat) : bits .xor .u8 (b.toNat : Int) ((vb p : Nat) : Int) = ((b ^^^ UInt8.ofNat (vb p)).toNat : Int) := by
  rw [u8_xor_nat _ _ b.toNat_lt (vb_lt p), UInt8.toNat_xor]
  simp [Nat.mod_eq_of_lt (vb_lt p)]
set_option maxRecDepth 100000 in
set_option maxHeartbeats 2000000 in
theorem one_any (l : List UInt8) (g cap n p : Nat) (on : Bool) (w : World) (hn : n ≤ 1000000) (hl : Hid (l.length = n)) (hp : p < 8 * n) (h : Hid (FRow w g l)) :
    Calls Try.prog 25 #[.slice (some ⟨g, 0, none⟩) n cap, .int .i64 (p : Int), .bool on] w fun e w' => e = .returned (.tuple #[]) ∧ FRow w' g (set1 l p on) ∧ Below g w w' := by
  have hconv := h.out.text (cap := cap)
  rw [hl.out] at hconv
  have hq : p / 8 < l.length := by rw [hl.out]; omega
  have hq0 : (0 : Int) ≤ (p : Int) / 8 := by omega
  have hq1 : (p : Int) / 8 < (n : Int) := by omega
  have hq2 : ((p : Int) / 8).toNat = p / 8 := by omega
  have hcell := (h.out _ hq).1
  have hfr := (h.out _ hq).2
  have HG := Lib.hid fun W => rget_any (bs l) p W (by rw [bs_size, hl.out]; exact hn) (by omega)
  rw [gb_nat, bs_data] at HG
  have HP := Lib.hid (h.out.put _ hq (l[p / 8] ^^^ UInt8.ofNat (vb p)))
  have HX := Lib.hid (xor_vb l[p / 8] p)
  have HS1 := Lib.hid fun hb => set1_xor l p on hq hb
  have HS2 := Lib.hid fun hb => set1_stay l p on hq hb
  generalize bt l p = is at *
  generalize hS : bs l = S at *
  clear hS
  go_enter Try.func25, Try.ntmps25
  go_wp2
  go_loop [6, 7] (fun v k => ∃ j : Nat, j ≤ p % 8 ∧ k = .int .i64 j ∧ v = .int .u8 ((2 ^ j : Nat) : Int)) (fun _ k => p % 8 - (intOf k).toNat)
  case atStart => exact ⟨0, Nat.zero_le _, rfl, rfl⟩
  case round =>
    obtain ⟨j, hj, rfl, rfl⟩ := hrel
    by_cases hjl : j < p % 8
    · have hx1 := pow_le64 j (by omega)
      have HD : Hid (2 ^ (j + 1) = 2 ^ j * 2) := Nat.pow_succ ..
      have hm1 : (j : Int) < (p : Int) % 8 := by omega
      obtain ⟨x, hx⟩ : ∃ x, 2 ^ j = x := ⟨_, rfl⟩
      rw [hx] at HD hx1 ⊢
      clear hx
      go_wp2
      go_round
      case rel => exact ⟨j + 1, by omega, by go_num, by rw [HD.out]; go_num⟩
      case measure => simp [intOf]; omega
    · obtain rfl : j = p % 8 := by omega
      have hm1 : ¬ ((p % 8 : Nat) : Int) < (p : Int) % 8 := by omega
      rw [show 2 ^ (p % 8) = vb p from rfl]
      have hv := vb_lt p
      cases hb : (is == on)
      · have hb2 : (is != on) = true := by simp [bne, hb]
        have HS3 := Lib.hid (HS1.out hb)
        clear HS1 HS2
        go_wp2_with (go_at_call 15; refine (HG.out _).mono ?_; rintro e w1 ⟨rfl, rfl⟩)
        rw [HX.out]
        go_end0
        exact ⟨rfl, by rw [← HS3.out]; exact HP.out, (Below.refl g w).setCell (p := ⟨g, p / 8, none⟩) (Nat.le_refl g) _⟩
      · have hb2 : (is != on) = false := by simp [bne, hb]
        have HS3 := Lib.hid (HS2.out hb)
        clear HS1 HS2
        go_wp2_with (go_at_call 15; refine (HG.out _).mono ?_; rintro e w1 ⟨rfl, rfl⟩)
        go_end0
        exact ⟨rfl, by rw [HS3.out]; exact h.out, Below.refl _ _⟩
end Go.Proofs.Ytlhhmdpfggefgaa
