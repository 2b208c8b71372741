/- What readHead and Head answer: what a head tells, or that it is none. -/
import Derived.Test.YtodfcbpimglhdaaFTake
namespace Go.Proofs.Ytodfcbpimglhdaa.Fr
open Go.RowKit

theorem prefix_iff (l : List UInt8) : Lib.hasPrefix l cdxt = true ↔ l.take 4 = cdxt := by
  unfold Lib.hasPrefix
  rw [List.isPrefixOf_iff_prefix]
  constructor
  · intro h; obtain ⟨t, rfl⟩ := h; rfl
  · intro h; rw [← h]; exact List.take_prefix _ _
theorem suffix_iff (l : List UInt8) (hl : l.length = 256) : Lib.hasSuffix l cdxe = true ↔ l.drop 252 = cdxe := by
  unfold Lib.hasSuffix
  rw [List.isSuffixOf_iff_suffix]
  constructor
  · intro h
    obtain ⟨t, rfl⟩ := h
    have e : t.length = 252 := by rw [List.length_append] at hl; simp [cdxe] at hl; omega
    rw [← e, List.drop_left]
  · intro h; rw [← h]; exact List.drop_suffix _ _

theorem or64 (hi lo : Nat) (h1 : hi < 4294967296) (h2 : lo < 4294967296) : bits .or .u64 ((hi : Int) * 4294967296) (lo : Int) = ((lo + 4294967296 * hi : Nat) : Int) := by
  rw [show (hi : Int) * 4294967296 = ((hi * 4294967296 : Nat) : Int) by omega, u64_or_nat _ _ (by omega) (by omega), nat_join 32 _ _ (by omega) (by omega)]
  omega

theorem readHead_size (s : ByteArray) (w : World) (h : ((s.size : Int) != 256) = true) :
    Calls Try.prog 101 #[.string s] w fun e w' => e = .returned (.tuple #[.int .u64 0, .slice none 0 0, .bool false]) ∧ Below w.heap.size w w' := by
  go_enter Try.func101, Try.ntmps101
  go_wp2
  go_ret3
  exact ⟨rfl, Below.refl _ _⟩
theorem readHead_begin (s : ByteArray) (w : World) (h : ((s.size : Int) != 256) = false) (hp : Lib.hasPrefix s.data.toList cdxt = false) :
    Calls Try.prog 101 #[.string s] w fun e w' => e = .returned (.tuple #[.int .u64 0, .slice none 0 0, .bool false]) ∧ Below w.heap.size w w' := by
  have C := Lib.hid (Try.strings_HasPrefix s ⟨#[67, 68, 88, 84]⟩ w)
  rw [show (⟨#[67, 68, 88, 84]⟩ : ByteArray).data.toList = cdxt from rfl, hp] at C
  clear hp
  go_enter Try.func101, Try.ntmps101
  go_wp2_with fail
  refine C.out.mono ?_
  rintro e w' ⟨rfl, rfl⟩
  go_wp2
  go_ret3
  exact ⟨rfl, Below.refl _ _⟩
theorem readHead_end (s : ByteArray) (w : World) (hs : s.size ≤ 1000) (h : ((s.size : Int) != 256) = false) (hp : Lib.hasPrefix s.data.toList cdxt = true) (hq : Lib.hasSuffix s.data.toList cdxe = false) :
    Calls Try.prog 101 #[.string s] w fun e w' => e = .returned (.tuple #[.int .u64 0, .slice none 0 0, .bool false]) ∧ Below w.heap.size w w' := by
  have C := Lib.hid (Try.strings_HasPrefix s ⟨#[67, 68, 88, 84]⟩ w)
  have D := Lib.hid (Try.strings_HasSuffix s ⟨#[67, 68, 88, 69]⟩ w (by omega))
  rw [show (⟨#[67, 68, 88, 84]⟩ : ByteArray).data.toList = cdxt from rfl, hp] at C
  rw [show (⟨#[67, 68, 88, 69]⟩ : ByteArray).data.toList = cdxe from rfl, hq] at D
  clear hp hq
  go_enter Try.func101, Try.ntmps101
  go_wp2_with fail
  refine C.out.mono ?_
  rintro e w' ⟨rfl, rfl⟩
  go_wp2_with fail
  refine D.out.mono ?_
  rintro e w' ⟨rfl, rfl⟩
  go_wp2
  go_ret3
  exact ⟨rfl, Below.refl _ _⟩

set_option maxRecDepth 100000 in
set_option maxHeartbeats 2000000 in
theorem readHead_form (s : ByteArray) (l : List UInt8) (w : World) (R : Ending → World → Prop) (hl : s.data.toList = l) (hn : l.length = 256) (hp : Lib.hasPrefix l cdxt = true) (hq : Lib.hasSuffix l cdxe = true)
    (hno : ¬ (1 ≤ nmAt l 12 ∧ nmAt l 12 ≤ 48 ∧ takeB (nmAt l 12) 58 ((l.take 248).drop 16) = true) → ∀ w', Below w.heap.size w w' → R (.returned (.tuple #[.int .u64 0, .slice none 0 0, .bool false])) w')
    (hyes : 1 ≤ nmAt l 12 → nmAt l 12 ≤ 48 → takeB (nmAt l 12) 58 ((l.take 248).drop 16) = true → ∀ v w', OwnW w.heap.size w' v (takenL ((l.take 248).drop 16) (nmAt l 12)) → Below w.heap.size w w' → R (.returned (.tuple #[.int .u64 ((seqOf l : Nat) : Int), v, .bool true])) w') :
    Calls Try.prog 101 #[.string s] w R := by
  have hsz : s.size = 256 := by rw [← str_len, hl, hn]
  have C := Lib.hid (Try.strings_HasPrefix s ⟨#[67, 68, 88, 84]⟩ w)
  have D := Lib.hid (Try.strings_HasSuffix s ⟨#[67, 68, 88, 69]⟩ w (by omega))
  rw [show (⟨#[67, 68, 88, 84]⟩ : ByteArray).data.toList = cdxt from rfl, hl, hp] at C
  rw [show (⟨#[67, 68, 88, 69]⟩ : ByteArray).data.toList = cdxe from rfl, hl, hq] at D
  clear hp hq
  have HNO := Lib.hid hno; clear hno
  have HYES := Lib.hid hyes; clear hyes
  have h1 : ((s.size : Int) != 256) = false := by simp; omega
  have i1 : (248 : Int) ≤ (s.size : Int) := by omega
  have hq2 : (l.take 248).length = 248 := by rw [List.length_take]; omega
  obtain ⟨T1, hT1⟩ : ∃ T, s.extract 4 248 = T := ⟨_, rfl⟩
  have HT1 : Hid (T1 = bs ((l.take 248).drop 4)) := by show _ = _; rw [← hT1, ← bs_data s, hl, bs_ext]
  obtain ⟨T2, HT2⟩ : ∃ T2, Hid (T2 = bs ((l.take 248).drop (4 + 4))) := ⟨_, rfl⟩
  obtain ⟨T3, HT3⟩ : ∃ T3, Hid (T3 = bs ((l.take 248).drop (8 + 4))) := ⟨_, rfl⟩
  obtain ⟨T4, HT4⟩ : ∃ T4, Hid (T4 = bs ((l.take 248).drop (12 + 4))) := ⟨_, rfl⟩
  have F1 : Hid (∀ W, Calls Try.prog 93 #[.string T1] W fun e w' => e = .returned (.tuple #[.int .u32 ((nmAt l 4 : Nat) : Int), .string T2, .bool true]) ∧ Below W.heap.size W w') := fun W => by
    have := toFixed_at W HT1.out HT2.out (by omega) (by omega)
    rw [nmAt_take _ _ _ (by omega)] at this; exact this
  have F2 : Hid (∀ W, Calls Try.prog 93 #[.string T2] W fun e w' => e = .returned (.tuple #[.int .u32 ((nmAt l 8 : Nat) : Int), .string T3, .bool true]) ∧ Below W.heap.size W w') := fun W => by
    have := toFixed_at (k := 8) W HT2.out HT3.out (by omega) (by omega)
    rw [nmAt_take _ _ _ (by omega)] at this; exact this
  have F3 : Hid (∀ W, Calls Try.prog 93 #[.string T3] W fun e w' => e = .returned (.tuple #[.int .u32 ((nmAt l 12 : Nat) : Int), .string T4, .bool true]) ∧ Below W.heap.size W w') := fun W => by
    have := toFixed_at (k := 12) W HT3.out HT4.out (by omega) (by omega)
    rw [nmAt_take _ _ _ (by omega)] at this; exact this
  have x4 := nmAt_lt l 4
  have x8 := nmAt_lt l 8
  have HTK : Hid (∀ W R', nmAt l 12 ≤ 58 → (takeB (nmAt l 12) 58 ((l.take 248).drop 16) = false → ∀ v w', Below W.heap.size W w' → R' (.returned (.tuple #[v, .bool false])) w') → (takeB (nmAt l 12) 58 ((l.take 248).drop 16) = true → ∀ v w', OwnW W.heap.size w' v (takenL ((l.take 248).drop 16) (nmAt l 12)) → Below W.heap.size W w' → R' (.returned (.tuple #[v, .bool true])) w') → Calls Try.prog 104 #[.int .i64 ((nmAt l 12 : Nat) : Int), .string T4] W R') :=
    fun W R' h58 ha hb => take_any _ 58 _ T4 W R' h58 (by omega) (by rw [List.length_drop]; omega) HT4.out ha hb
  have HSEQ : Hid (seqOf l = nmAt l 4 + 4294967296 * nmAt l 8) := rfl
  have x12 := nmAt_lt l 12
  obtain ⟨lo, hlo⟩ : ∃ x, nmAt l 4 = x := ⟨_, rfl⟩
  obtain ⟨hi, hhi⟩ : ∃ x, nmAt l 8 = x := ⟨_, rfl⟩
  obtain ⟨n, hnn⟩ : ∃ x, nmAt l 12 = x := ⟨_, rfl⟩
  rw [hlo] at F1 x4 HSEQ
  rw [hhi] at F2 x8 HSEQ
  rw [hnn] at F3 HTK HNO HYES x12
  obtain ⟨sq, hsq⟩ : ∃ x, seqOf l = x := ⟨_, rfl⟩
  rw [hsq] at HSEQ HYES
  have HOR : Hid (bits .or .u64 ((hi : Int) * 4294967296) (lo : Int) = (sq : Int)) := by show _ = _; rw [HSEQ.out]; exact or64 hi lo x8 x4
  clear hlo hhi hnn hsq hl hq2
  go_enter Try.func101, Try.ntmps101
  go_wp2_with fail
  refine C.out.mono ?_
  rintro e w' ⟨rfl, rfl⟩
  go_wp2_with fail
  refine D.out.mono ?_
  rintro e w' ⟨rfl, rfl⟩
  clear C D
  go_wp2_with fail
  refine (F1.out _).mono ?_
  rintro e w1 ⟨rfl, hb1⟩
  have HB1 := Lib.hid hb1; clear hb1
  go_wp2_with fail
  refine (F2.out _).mono ?_
  rintro e w2 ⟨rfl, hb2⟩
  have HB2 := Lib.hid (HB1.out.trans (hb2.mono HB1.out.size)); clear hb2
  go_wp2_with fail
  refine (F3.out _).mono ?_
  rintro e w3 ⟨rfl, hb3⟩
  have HB3 := Lib.hid (HB2.out.trans (hb3.mono HB2.out.size)); clear hb3 HB1 HB2 F1 F2 F3
  by_cases hr : 1 ≤ n ∧ n ≤ 48
  · obtain ⟨hr1, hr2⟩ := hr
    have k1 : ¬ (n : Int) < 1 := by omega
    have k2 : ¬ (48 : Int) < (n : Int) := by omega
    go_wp2_with fail
    refine HTK.out _ _ (by omega) ?_ ?_
    · intro hf v w4 hb4
      have HB4 := Lib.hid (HB3.out.trans (hb4.mono HB3.out.size))
      have HF := Lib.hid hf
      clear hb4 hf
      go_wp2
      go_ret3
      exact HNO.out (fun hh => by rw [HF.out] at hh; exact absurd hh.2.2 (by decide)) _ HB4.out
    · intro hf v w4 ho4 hb4
      have HB4 := Lib.hid (HB3.out.trans (hb4.mono HB3.out.size))
      have HO4 := Lib.hid (ho4.mono HB3.out.size)
      have HF := Lib.hid hf
      clear hb4 hf ho4
      go_wp2
      go_ret3
      rw [HOR.out]
      exact HYES.out hr1 hr2 HF.out _ _ HO4.out HB4.out
  · by_cases k1 : (n : Int) < 1
    · go_wp2
      go_ret3
      exact HNO.out (fun hh => hr ⟨hh.1, hh.2.1⟩) _ HB3.out
    · have k2 : (48 : Int) < (n : Int) := by omega
      go_wp2
      go_ret3
      exact HNO.out (fun hh => hr ⟨hh.1, hh.2.1⟩) _ HB3.out

theorem headB_false {s : ByteArray} (h : headB s.data.toList = false) : hd s = (0, 0, false) := by unfold hd; rw [h]; rfl
theorem headB_true {s : ByteArray} (h : headB s.data.toList = true) : hd s = (seqOf s.data.toList, nmAt s.data.toList 12, true) := by unfold hd; rw [if_pos h]
theorem readHead_no (s : ByteArray) (w : World) (h : headB s.data.toList = false) :
    Calls Try.prog 101 #[.string s] w fun e w' => e = .returned (.tuple #[.int .u64 0, .slice none 0 0, .bool false]) ∧ Below w.heap.size w w' := by
  by_cases h1 : s.size = 256
  · have hne : ((s.size : Int) != 256) = false := by simp; omega
    have hl : s.data.toList.length = 256 := by rw [str_len]; exact h1
    cases hp : Lib.hasPrefix s.data.toList cdxt with
    | false => exact readHead_begin s w hne hp
    | true =>
      cases hq : Lib.hasSuffix s.data.toList cdxe with
      | false => exact readHead_end s w (by omega) hne hp hq
      | true =>
        refine readHead_form s _ w _ rfl hl hp hq (fun _ w' hb => ⟨rfl, hb⟩) ?_
        intro k1 k2 k3
        exfalso
        rw [Bool.eq_false_iff] at h
        exact h ((headB_iff _).2 ⟨hl, (prefix_iff _).1 hp, (suffix_iff _ hl).1 hq, k1, k2, k3⟩)
  · exact readHead_size s w (by simp; omega)
theorem readHead_yes (s : ByteArray) (w : World) (h : headB s.data.toList = true) :
    Calls Try.prog 101 #[.string s] w fun e w' => ∃ v, e = .returned (.tuple #[.int .u64 ((seqOf s.data.toList : Nat) : Int), v, .bool true]) ∧ OwnW w.heap.size w' v (takenL ((s.data.toList.take 248).drop 16) (nmAt s.data.toList 12)) ∧ Below w.heap.size w w' := by
  obtain ⟨h1, h2, h3, h4, h5, h6⟩ := (headB_iff _).1 h
  exact readHead_form s _ w _ rfl h1 ((prefix_iff _).2 h2) ((suffix_iff _ h1).2 h3) (fun hn => absurd ⟨h4, h5, h6⟩ hn) (fun _ _ _ v w' ho hb => ⟨v, rfl, ho, hb⟩)

set_option maxRecDepth 100000 in
set_option maxHeartbeats 1000000 in
theorem head_any (s : ByteArray) (w : World) :
    Calls Try.prog 94 #[.string s] w fun e w' => e = .returned (.tuple #[.int .u64 (((hd s).1 : Nat) : Int), .int .i64 (((hd s).2.1 : Nat) : Int), .bool (hd s).2.2]) ∧ Below w.heap.size w w' := by
  cases h : headB s.data.toList with
  | false =>
    rw [headB_false h]
    have C := Lib.hid (readHead_no s w h)
    clear h
    go_enter Try.func94, Try.ntmps94
    go_wp2_with fail
    refine C.out.mono ?_
    rintro e w1 ⟨rfl, hb1⟩
    have HB := Lib.hid hb1; clear hb1 C
    go_wp2
    go_ret3
    exact ⟨rfl, HB.out⟩
  | true =>
    rw [headB_true h]
    have C := Lib.hid (readHead_yes s w h)
    clear h
    generalize seqOf s.data.toList = sq at *
    generalize nmAt s.data.toList 12 = n at *
    go_enter Try.func94, Try.ntmps94
    go_wp2_with fail
    refine C.out.mono ?_
    rintro e w1 ⟨v, rfl, ho, hb1⟩
    have HB := Lib.hid hb1; clear hb1 C
    obtain ⟨ao, c, hv, _⟩ := ho.sl
    rw [takenL_len] at hv
    subst hv
    clear ho
    go_wp2
    go_ret3
    exact ⟨rfl, HB.out⟩
end Go.Proofs.Ytodfcbpimglhdaa.Fr
