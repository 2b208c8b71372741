/- WireFlips answers true for every text, every place and every bits, and changes nothing that was there: the walk. -/
import Derived.Test.YtojneafmdlohoaaWShown
import Derived.Laws.IdiomStrings
namespace Go.Proofs.Ytojneafmdlohoaa
open Go.RowKit

/-- Bytes in a block of one's own. -/
def FRow (w : World) (g : Nat) (l : List UInt8) : Prop := ∀ j (h : j < l.length), w.cell? ⟨g, j, none⟩ = some (.int .u8 (l[j].toNat : Int)) ∧ w.frozen? ⟨g, j, none⟩ = false

theorem bytes_new (w : World) (s : ByteArray) : ∃ cap W2, (convert 9 41 (.string s)).run Try.prog w = .ok (.slice (some ⟨w.heap.size, 0, none⟩) s.size cap) W2 ∧ FRow W2 w.heap.size s.data.toList ∧ Below w.heap.size w W2 := by
  refine ⟨_, _, run_bytes_of_string w 9 41 5 s Try.underlying9 Try.underlying41 Try.underlying5, ?_, (Below.refl _ _).drew.alloc (Nat.le_refl _) _⟩
  intro j hj
  have hj' : j < s.size := by rw [str_len] at hj; exact hj
  have hsz : s.size ≤ (bytesRow s (grownCap w s.size 0 5)).size := by unfold bytesRow; rw [Array.size_append, Array.size_map]; exact Nat.le_add_right _ _
  refine ⟨?_, ?_⟩
  · rw [show w.heap.size = w.drew.heap.size from rfl, World.cell?_alloc_mark]
    unfold bytesRow
    rw [Array.getElem?_append_left (by rw [Array.size_map]; exact hj'), Array.getElem?_map, Array.getElem?_eq_getElem (show j < s.data.size from hj')]
    rfl
  · rw [show w.heap.size = w.drew.heap.size from rfl, World.frozen?_alloc_mark, decide_eq_false (by omega)]; rfl

theorem FRow.put {w : World} {g : Nat} {l : List UInt8} (h : FRow w g l) (i : Nat) (hi : i < l.length) (b : UInt8) : FRow (w.setCell ⟨g, i, none⟩ (.int .u8 (b.toNat : Int))) g (l.set i b) := by
  intro j hj
  have hj' : j < l.length := by simpa using hj
  refine ⟨?_, by rw [World.frozen?_setCell]; exact (h j hj').2⟩
  by_cases e : j = i
  · subst e
    rw [World.cell?_setCell_same' _ _ _ (by rw [(h j hj').1]; rfl)]
    simp
  · rw [World.cell?_setCell_other _ _ _ _ (by simp), (h j hj').1]
    simp [Ne.symm e]
theorem FRow.text {w : World} {g cap : Nat} {l : List UInt8} (h : FRow w g l) : (convert 41 9 (.slice (some ⟨g, 0, none⟩) l.length cap)).run Try.prog w = .ok (.string (bs l)) w :=
  run_convert_bytes_back w 41 9 5 ⟨g, 0, none⟩ cap l Try.underlying41 Try.underlying5 Try.underlying9 (fun j hj => by
    rw [show (⟨g, 0, none⟩ : Addr).add j = ⟨g, 0 + j, none⟩ by unfold Addr.add; split <;> simp_all, Nat.zero_add]
    exact (h j hj).1)
/-- The bits that are turned, of a list of n bytes from place k on, behind i of the 32. -/
def turned (n k bi i : Nat) : Nat := bi % 2 ^ min i (8 * n - k) * 2 ^ k
theorem pow_byte (r : Nat) (h : r < 8) : 2 ^ r < 256 := by
  have : 2 ^ r < 2 ^ 8 := Nat.pow_lt_pow_right (by omega) h
  omega
theorem xor_place (b : UInt8) (r : Nat) (h : r < 8) : bits .xor .u8 (b.toNat : Int) ((2 : Int) ^ r % 256) = ((b ^^^ UInt8.ofNat (2 ^ r)).toNat : Int) := by
  have e : (2 : Int) ^ r % 256 = ((2 ^ r : Nat) : Int) := by
    have h2 : (2 : Int) ^ r = ((2 ^ r : Nat) : Int) := by rw [Int.natCast_pow]; rfl
    have := pow_byte r h
    rw [h2]; exact Int.emod_eq_of_lt (Int.natCast_nonneg _) (Int.ofNat_lt.2 this)
  rw [e, u8_xor_nat _ _ (byte_lt b) (pow_byte r h), UInt8.toNat_xor, toNat_of _ (pow_byte r h)]
theorem turned_set (l L : List UInt8) (n k bi i : Nat) (hk : k < 8 * n) (hb : bi / 2 ^ i % 2 = 1) (hi : k + i < 8 * n) (h : leN l = leN L ^^^ turned n k bi i) (hq : (k + i) / 8 < l.length) :
    leN (l.set ((k + i) / 8) (l[(k + i) / 8] ^^^ UInt8.ofNat (2 ^ ((k + i) % 8)))) = leN L ^^^ turned n k bi (i + 1) := by
  have e := flip_step n k i bi hk
  rw [if_pos ⟨hb, hi⟩] at e
  rw [leN_set l _ hq, h, toNat_of _ (pow_byte _ (Nat.mod_lt _ (by omega))), ← Nat.pow_add, show (k + i) % 8 + 8 * ((k + i) / 8) = k + i by omega]
  unfold turned
  rw [e, Nat.xor_assoc]
theorem turned_stay (l L : List UInt8) (n k bi i : Nat) (hk : k < 8 * n) (hb : ¬ (bi / 2 ^ i % 2 = 1 ∧ k + i < 8 * n)) (h : leN l = leN L ^^^ turned n k bi i) : leN l = leN L ^^^ turned n k bi (i + 1) := by
  have e := flip_step n k i bi hk
  rw [if_neg hb] at e
  unfold turned at h ⊢
  rw [e, h]

set_option maxRecDepth 100000 in
set_option maxHeartbeats 2000000 in
theorem flips_some (s : ByteArray) (at_ : Int) (bi : Nat) (K : Nat) (w : World) (h0 : 0 < s.size) (hs : s.size ≤ 2000) (hbi : bi < 4294967296) (hb0 : ((bi : Int) == 0) = false)
    (hK : K < 8 * s.size) (h1 : at_.tmod (8 * (s.size : Int)) = (K : Int) ∨ (at_.tmod (8 * (s.size : Int)) = -(K : Int) ∧ 0 < K)) :
    Calls Try.prog 7 #[.string s, .int .i64 at_, .int .u32 (bi : Int)] w fun e w' => e = .returned (.bool true) ∧ Below w.heap.size w w' := by
  have hs0 : ((s.size : Int) == 0) = false := beq_eq_false_iff_ne.2 (by omega)
  have hs1 : (s.size == 0) = false := beq_eq_false_iff_ne.2 (by omega)
  rcases h1 with h1 | ⟨h1, hK0⟩
  all_goals
    go_enter Try.func7, Try.ntmps7
    go_wp2_with fail
    refine (wshown_any _).mono ?_
    rintro e w1 ⟨rfl, hb1⟩
    have H1 := Lib.hid hb1; clear hb1
    obtain ⟨cap, w2, hcv, hrow, hbel⟩ := bytes_new w1 s
    have HR := Lib.hid hrow; clear hrow
    have HB := Lib.hid hbel; clear hbel
    obtain ⟨g, hg⟩ : ∃ g, w1.heap.size = g := ⟨_, rfl⟩
    rw [hg] at HR HB hcv
    have HG := Lib.hid hg; clear hg
    go_wp2
    clear hcv h1 hs0 hs1 hb0
    go_loopw [10] (fun i wr => ∃ (j : Nat) (l : List UInt8), j ≤ 32 ∧ i = .int .i64 j ∧ Hid (l.length = s.size) ∧ Hid (leN l = leN s.data.toList ^^^ turned s.size K bi j) ∧ Hid (FRow wr g l) ∧ Hid (Below g w1 wr)) (fun i _ => 32 - (intOf i).toNat)
    case atStart => exact ⟨0, s.data.toList, Nat.zero_le _, rfl, str_len s, by show _ = _; unfold turned; simp [Nat.mod_one], HR, HB⟩
    case round =>
      clear HR HB
      obtain ⟨j, l, hj, rfl, HL, HE, HR, HB⟩ := hrel
      by_cases hlt : j < 32
      · have hd : ((bi : Int) / 2 ^ j).tmod 2 = ((bi / 2 ^ j % 2 : Nat) : Int) := by
          have e : (bi : Int) / 2 ^ j = ((bi / 2 ^ j : Nat) : Int) := by rw [Int.natCast_ediv, Int.natCast_pow]; rfl
          rw [e, Int.tmod_eq_emod_of_nonneg (Int.natCast_nonneg _)]; rfl
        by_cases hb : bi / 2 ^ j % 2 = 1
        · have hd1 : ((bi : Int) / 2 ^ j).tmod 2 = 1 := by rw [hd, hb]; rfl
          clear hd
          by_cases hin : K + j < 8 * s.size
          · have hq : (K + j) / 8 < l.length := by rw [HL.out]; omega
            have hin1 : ((K : Int) + (j : Int)) / 8 < (s.size : Int) := by omega
            have hcell := (HR.out _ hq).1
            have hfr := (HR.out _ hq).2
            have HP := Lib.hid (HR.out.put _ hq (l[(K + j) / 8] ^^^ UInt8.ofNat (2 ^ ((K + j) % 8))))
            have HX := Lib.hid (xor_place l[(K + j) / 8] ((K + j) % 8) (Nat.mod_lt _ (by omega)))
            have HE2 := Lib.hid (turned_set l s.data.toList s.size K bi j hK hb hin HE.out hq)
            have HL2 : Hid ((l.set ((K + j) / 8) (l[(K + j) / 8] ^^^ UInt8.ofNat (2 ^ ((K + j) % 8)))).length = s.size) := by show _ = _; rw [List.length_set]; exact HL.out
            clear hb
            go_wp2
            rw [HX.out]
            go_roundw
            case rel => exact ⟨j + 1, _, by omega, by go_num, HL2, HE2, HP, HB.out.setCell (Nat.le_refl _) _⟩
            case measure => simp [intOf]; omega
          · have hin1 : ¬ ((K : Int) + (j : Int)) / 8 < (s.size : Int) := by omega
            have HE2 := Lib.hid (turned_stay l s.data.toList s.size K bi j hK (fun h => hin h.2) HE.out)
            clear hb
            go_wp2
            go_roundw
            case rel => exact ⟨j + 1, l, by omega, by go_num, HL, HE2, HR, HB⟩
            case measure => simp [intOf]; omega
        · have hd1 : ((bi : Int) / 2 ^ j).tmod 2 = 0 := by rw [hd, show bi / 2 ^ j % 2 = 0 by omega]; rfl
          have HE2 := Lib.hid (turned_stay l s.data.toList s.size K bi j hK (fun h => hb h.1) HE.out)
          clear hd hb
          go_wp2
          go_roundw
          case rel => exact ⟨j + 1, l, by omega, by go_num, HL, HE2, HR, HB⟩
          case measure => simp [intOf]; omega
      · obtain rfl : j = 32 := by omega
        have hconv := HR.out.text (cap := cap)
        rw [HL.out] at hconv
        have hsl : s.data.toList.length = s.size := str_len s
        have HF : Hid (Below w.heap.size w wr) := below_next H1.out (Nat.le_refl _) (by rw [HG.out]; exact HB.out)
        by_cases he : l = s.data.toList
        · have hst : ((bs l).toList == s.toList) = true := str_same (by rw [he, bs_self])
          clear he hsl
          generalize bs l = S at *
          go_wp2
          go_ret
          exact ⟨by simp, HF.out⟩
        · have hst : ((bs l).toList == s.toList) = false := str_diff (fun h => he (by rw [← bs_self s] at h; exact bs_inj h))
          have hne : crcL l ≠ crcL s.data.toList := fun h => he (crc_burst s.data.toList l (by rw [hsl]; exact HL.out) K _ (by rw [hsl]; omega) (Nat.lt_of_le_of_lt (Nat.mod_le _ _) hbi) HE.out h)
          have hm : ∀ k : Nat, k ≤ 2000 → k ≤ maxLen := fun k hk => by unfold maxLen; omega
          have C1 := Lib.hid fun W => crc1 W (bs l) (hm _ (by rw [bs_size, HL.out]; exact hs))
          have C2 := Lib.hid fun W => crc1 W s (hm _ hs)
          rw [show (bs l).data.toList = l from rfl] at C1
          have hneq : (((crcL l : Nat) : Int) != ((crcL s.data.toList : Nat) : Int)) = true := by simp; omega
          clear hm he hne hsl
          generalize bs l = S at *
          generalize crcL l = X at *
          generalize crcL s.data.toList = Y at *
          go_wp2_with fail
          refine (C1.out _).mono ?_
          rintro e w3 ⟨rfl, hb1⟩
          have H3 := Lib.hid (below_next HF.out (Nat.le_refl _) hb1); clear hb1 HF
          go_wp2_with fail
          refine (C2.out _).mono ?_
          rintro e w4 ⟨rfl, hb1⟩
          have H4 := Lib.hid (below_next H3.out (Nat.le_refl _) hb1); clear hb1 H3
          go_wp2
          go_ret
          exact ⟨by simp, H4.out⟩

set_option maxRecDepth 100000 in
set_option maxHeartbeats 1000000 in
theorem flips_out (s : ByteArray) (at_ : Int) (bi : Nat) (w : World) (h : s.size = 0 ∨ 2000 < s.size ∨ bi = 0) :
    Calls Try.prog 7 #[.string s, .int .i64 at_, .int .u32 (bi : Int)] w fun e w' => e = .returned (.bool true) ∧ Below w.heap.size w w' := by
  have hx : (((s.size : Int) == 0) = true ∧ (s.size == 0) = true) ∨ (((s.size : Int) == 0) = false ∧ (s.size == 0) = false ∧ 2000 < s.size) ∨ (((s.size : Int) == 0) = false ∧ (s.size == 0) = false ∧ s.size ≤ 2000 ∧ ((bi : Int) == 0) = true) := by
    by_cases h1 : s.size = 0
    · left; exact ⟨beq_iff_eq.2 (by omega), beq_iff_eq.2 h1⟩
    · have e1 : ((s.size : Int) == 0) = false := beq_eq_false_iff_ne.2 (by omega)
      have e2 : (s.size == 0) = false := beq_eq_false_iff_ne.2 h1
      by_cases h2 : 2000 < s.size
      · right; left; exact ⟨e1, e2, h2⟩
      · right; right; exact ⟨e1, e2, by omega, beq_iff_eq.2 (by omega)⟩
  clear h
  rcases hx with ⟨h, h2⟩ | ⟨h, h2, h3⟩ | ⟨h, h2, h3, h4⟩
  all_goals
    go_enter Try.func7, Try.ntmps7
    go_wp2_with fail
    refine (wshown_any _).mono ?_
    rintro e w1 ⟨rfl, hb1⟩
    have H1 := Lib.hid hb1; clear hb1
    go_wp2
    go_ret
    exact ⟨rfl, H1.out⟩

theorem flips_any (s : ByteArray) (at_ : Int) (bi : Nat) (w : World) (_hat : -9223372036854775808 ≤ at_ ∧ at_ ≤ 9223372036854775807) (hbi : bi < 4294967296) :
    Calls Try.prog 7 #[.string s, .int .i64 at_, .int .u32 (bi : Int)] w fun e w' => e = .returned (.bool true) ∧ Below w.heap.size w w' := by
  by_cases h : s.size = 0 ∨ 2000 < s.size ∨ bi = 0
  · exact flips_out s at_ bi w h
  · have hpos : (0 : Int) < 8 * (s.size : Int) := by omega
    by_cases hz : 0 ≤ at_
    · have hm := Int.tmod_eq_emod_of_nonneg (b := 8 * (s.size : Int)) hz
      have h1 := Int.emod_nonneg at_ (b := 8 * (s.size : Int)) (by omega)
      have h2 := Int.emod_lt_of_pos at_ hpos
      exact flips_some s at_ bi (at_ % (8 * (s.size : Int))).toNat w (by omega) (by omega) hbi (beq_eq_false_iff_ne.2 (by omega)) (by omega) (.inl (by rw [hm]; omega))
    · have hm : at_.tmod (8 * (s.size : Int)) = -((-at_) % (8 * (s.size : Int))) := by
        have := Int.neg_tmod at_ (8 * (s.size : Int))
        have h3 := Int.tmod_eq_emod_of_nonneg (a := -at_) (b := 8 * (s.size : Int)) (by omega)
        omega
      have h1 := Int.emod_nonneg (-at_) (b := 8 * (s.size : Int)) (by omega)
      have h2 := Int.emod_lt_of_pos (-at_) hpos
      by_cases h0 : (-at_) % (8 * (s.size : Int)) = 0
      · exact flips_some s at_ bi 0 w (by omega) (by omega) hbi (beq_eq_false_iff_ne.2 (by omega)) (by omega) (.inl (by rw [hm, h0]; rfl))
      · exact flips_some s at_ bi ((-at_) % (8 * (s.size : Int))).toNat w (by omega) (by omega) hbi (beq_eq_false_iff_ne.2 (by omega)) (by omega) (.inr ⟨by rw [hm]; omega, by omega⟩)
end Go.Proofs.Ytojneafmdlohoaa
