/- The document's Rune. -/
import Derived.Test.YtbblmpibekkbfaaDoorUBase
import Derived.RegionTactic
import Derived.RegionCalls
import Derived.Deep.RegionHeld3
namespace Go.Proofs.YtbblmpibekkbfaaDoor
open Go.RowKit

/-- The number that some bytes say, as the document reckons it. -/
def vI (L : List UInt8) (off : Int) : Nat → Int
  | 0 => ((L.getD 0 0).toNat : Int) - off
  | j + 1 => 64 * vI L off j + ((L.getD (j + 1) 0).toNat : Int) - 128
def offI (k : Nat) : Int := if k = 2 then 192 else if k = 3 then 224 else if k = 4 then 240 else 0
theorem vI_bound (L : List UInt8) (off : Int) (ho : 0 ≤ off ∧ off ≤ 255) : ∀ j, j ≤ 3 → -900000000 ≤ vI L off j ∧ vI L off j ≤ 900000000 := by
  have b : ∀ i, (L.getD i 0).toNat < 256 := fun i => UInt8.toNat_lt _
  have h0 := b 0; have h1 := b 1; have h2 := b 2; have h3 := b 3
  intro j hj
  rcases (show j = 0 ∨ j = 1 ∨ j = 2 ∨ j = 3 by omega) with rfl | rfl | rfl | rfl
  all_goals
    simp only [vI, Nat.zero_add, Nat.reduceAdd]
    omega
set_option maxRecDepth 100000 in
theorem v_dec {L : List UInt8} {r k : Nat} (h : dec L = some (r, k)) : vI L (offI k) (k - 1) = (r : Int) := by
  obtain ⟨a1, a2, a3, a4⟩ := dec_some h
  have hr : r ≤ 0x10FFFF := by unfold isRn at a1; exact (of_decide_eq_true a1).1
  have hg : ∀ i, i < k → L.getD i 0 = (byts r).getD i 0 := fun i hi => by
    rw [a2]
    simp [List.getD, List.getElem?_take, hi]
  rw [byts_len] at a3
  by_cases h1 : r < 0x80
  · rw [if_pos h1] at a3
    subst a3
    have g0 := hg 0 (by omega)
    unfold byts at g0
    rw [if_pos h1] at g0
    show ((L.getD 0 0).toNat : Int) - 0 = _
    rw [g0]
    show ((UInt8.ofNat r).toNat : Int) - 0 = _
    rw [u8_of r (by omega)]
    omega
  rw [if_neg h1] at a3
  by_cases h2 : r < 0x800
  · rw [if_pos h2] at a3
    subst a3
    have g0 := hg 0 (by omega)
    have g1 := hg 1 (by omega)
    unfold byts at g0 g1
    rw [if_neg h1, if_pos h2] at g0 g1
    show 64 * (((L.getD 0 0).toNat : Int) - 192) + ((L.getD 1 0).toNat : Int) - 128 = _
    rw [g0, g1]
    show 64 * (((UInt8.ofNat _).toNat : Int) - 192) + ((UInt8.ofNat _).toNat : Int) - 128 = _
    rw [u8_of (0xC0 + r / 64) (by omega), u8_of (0x80 + r % 64) (by omega)]
    omega
  rw [if_neg h2] at a3
  by_cases h3 : r < 0x10000
  · rw [if_pos h3] at a3
    subst a3
    have g0 := hg 0 (by omega)
    have g1 := hg 1 (by omega)
    have g2 := hg 2 (by omega)
    unfold byts at g0 g1 g2
    rw [if_neg h1, if_neg h2, if_pos h3] at g0 g1 g2
    show 64 * (64 * (((L.getD 0 0).toNat : Int) - 224) + ((L.getD 1 0).toNat : Int) - 128) + ((L.getD 2 0).toNat : Int) - 128 = _
    rw [g0, g1, g2]
    show 64 * (64 * (((UInt8.ofNat _).toNat : Int) - 224) + ((UInt8.ofNat _).toNat : Int) - 128) + ((UInt8.ofNat _).toNat : Int) - 128 = _
    rw [u8_of (0xE0 + r / 4096) (by omega), u8_of (0x80 + r / 64 % 64) (by omega), u8_of (0x80 + r % 64) (by omega)]
    omega
  · rw [if_neg h3] at a3
    subst a3
    have g0 := hg 0 (by omega)
    have g1 := hg 1 (by omega)
    have g2 := hg 2 (by omega)
    have g3 := hg 3 (by omega)
    unfold byts at g0 g1 g2 g3
    rw [if_neg h1, if_neg h2, if_neg h3] at g0 g1 g2 g3
    show 64 * (64 * (64 * (((L.getD 0 0).toNat : Int) - 240) + ((L.getD 1 0).toNat : Int) - 128) + ((L.getD 2 0).toNat : Int) - 128) + ((L.getD 3 0).toNat : Int) - 128 = _
    rw [g0, g1, g2, g3]
    show 64 * (64 * (64 * (((UInt8.ofNat _).toNat : Int) - 240) + ((UInt8.ofNat _).toNat : Int) - 128) + ((UInt8.ofNat _).toNat : Int) - 128) + ((UInt8.ofNat _).toNat : Int) - 128 = _
    rw [u8_of (0xF0 + r / 262144) (by omega), u8_of (0x80 + r / 4096 % 64) (by omega), u8_of (0x80 + r / 64 % 64) (by omega), u8_of (0x80 + r % 64) (by omega)]
    omega
theorem utxt_take (s : ByteArray) (k : Nat) : s.extract 0 k = utxt (s.data.toList.take k) := by
  apply ByteArray.ext
  rw [ByteArray.data_extract]
  unfold utxt
  apply Array.ext'
  rw [Array.toList_extract]
  simp only [List.extract_eq_take_drop, List.drop_zero, Nat.sub_zero]
theorem ustr_diff {a b : ByteArray} (h : a ≠ b) : (a.toList == b.toList) = false := by
  rw [beq_eq_false_iff_ne]; intro e; apply h; apply ByteArray.ext; apply Array.ext'; rw [← ByteArray.toList_eq, ← ByteArray.toList_eq]; exact e
theorem ustr_some {T : ByteArray} (h : 0 < T.size) : T.toList.isEmpty = false := by
  rw [ByteArray.toList_eq, List.isEmpty_eq_false_iff]
  intro e
  have := data_len T
  rw [e] at this
  simp at this
  omega
theorem utxt_inj {l m : List UInt8} (h : utxt l = utxt m) : l = m := congrArg (fun b : ByteArray => b.data.toList) h
theorem byte_at (s : ByteArray) (i : Nat) (h : i < s.size) : s[i] = s.data.toList.getD i 0 := by
  have h2 : i < s.data.toList.length := by rw [data_len]; exact h
  rw [List.getD, List.getElem?_eq_getElem h2]; rfl
/-- What is asked of k bytes: is their number a rune, and are these its bytes? -/
theorem ask_k {L : List UInt8} {k : Nat} (h1 : 1 ≤ k) (h2 : k ≤ L.length) : (∃ r : Nat, dec L = some (r, k) ∧ vI L (offI k) (k - 1) = r ∧ isRn r = true ∧ byts r = L.take k) ∨
    ((∀ r, dec L ≠ some (r, k)) ∧ (isI (vI L (offI k) (k - 1)) = false ∨ ∃ r : Nat, vI L (offI k) (k - 1) = r ∧ isRn r = true ∧ byts r ≠ L.take k)) := by
  by_cases hd : ∃ r, dec L = some (r, k)
  · obtain ⟨r, hd⟩ := hd
    obtain ⟨a1, a2, a3, a4⟩ := dec_some hd
    exact .inl ⟨r, hd, v_dec hd, a1, a2⟩
  · refine .inr ⟨fun r hr => hd ⟨r, hr⟩, ?_⟩
    cases hi : isI (vI L (offI k) (k - 1)) with
    | false => exact .inl rfl
    | true =>
      obtain ⟨r, e, hr⟩ := isI_of hi
      refine .inr ⟨r, e, hr, fun hb => hd ⟨r, ?_⟩⟩
      have := dec_byts r (L.drop k) hr
      rw [hb, List.take_append_drop, List.length_take, Nat.min_eq_left h2] at this
      exact this

set_option maxRecDepth 100000 in
set_option maxHeartbeats 4000000 in
theorem xrune_any (s : ByteArray) (w : World) (hs : s.size ≤ 100000) : Calls Tryd.prog 34 #[.string s] w fun e w' => e = .returned (.tuple #[.int .i64 (runeL s.data.toList).1, .int .i64 ((runeL s.data.toList).2 : Nat)]) ∧ Below w.heap.size w w' := by
  have hlen := data_len s
  by_cases h0 : s.size = 0
  · have hnil : s.data.toList = [] := List.length_eq_zero_iff.1 (by omega)
    have hse : s = ⟨#[]⟩ := by rw [← utxt_of s, hnil]; rfl
    subst hse
    go_enter Tryd.func34, Tryd.ntmps34
    go_wp2
    go_ret2
    exact ⟨rfl, Below.refl _ _⟩
  have hne : s.data.toList ≠ [] := fun e => by rw [e] at hlen; exact h0 hlen.symm
  have hz : 1 ≤ s.size := by omega
  have hse := ustr_some hz
  have HB : Hid (∀ i (h : i < s.size), s[i].toNat = (s.data.toList.getD i 0).toNat) := fun i h => by rw [byte_at s i h]
  have HT : Hid (∀ k, s.extract 0 k = utxt (s.data.toList.take k)) := fun k => utxt_take s k
  obtain ⟨L, hL⟩ : ∃ L, s.data.toList = L := ⟨_, rfl⟩
  rw [hL] at hne HB HT hlen ⊢
  clear hL h0
  have HNo : Hid ((∀ m, 1 ≤ m → m ≤ 4 → m ≤ L.length → ∀ r, dec L ≠ some (r, m)) → runeL L = (-1, 1)) := fun h => by
    have hd : dec L = none := by
      cases e : dec L with
      | none => rfl
      | some x => obtain ⟨r, m⟩ := x; exact absurd e (h m (dec_pos e).1 (dec_pos e).2 (dec_some e).2.2.2 r)
    unfold runeL; rw [hd]; dsimp only; rw [if_neg hne]
  have HYes : Hid (∀ r m, dec L = some (r, m) → runeL L = ((r : Int), m)) := fun r m h => by unfold runeL; rw [h]
  have HAsk : Hid (∀ k, 1 ≤ k → k ≤ L.length → _) := fun k h1 h2 => ask_k (L := L) h1 h2
  have HVb : Hid (∀ k, 1 ≤ k → k ≤ 4 → ∀ j, j ≤ 3 → -900000000 ≤ vI L (offI k) j ∧ vI L (offI k) j ≤ 900000000) := fun k h1 h2 j hj => vI_bound L _ (by unfold offI; split; omega; split; omega; split <;> omega) j hj
  rw [hlen] at HAsk HNo
  go_enter Tryd.func34, Tryd.ntmps34
  go_wp2_with fail
  go_loopw [4] (fun n wr => ∃ k : Nat, 1 ≤ k ∧ k ≤ 5 ∧ n = .int .i64 (k : Int) ∧ Hid (∀ m, 1 ≤ m → m < k → ∀ r, dec L ≠ some (r, m)) ∧ Hid (Below w.heap.size w wr)) (fun n _ => 5 - (intOf n).toNat)
  case atStart => exact ⟨1, Nat.le_refl _, by omega, rfl, fun m h1 h2 => absurd h2 (by omega), Below.refl _ _⟩
  case round =>
    obtain ⟨k, hk1, hk5, rfl, HN, HBw⟩ := hrel
    by_cases hgo : k ≤ 4 ∧ k ≤ s.size
    · obtain ⟨hk4, hks⟩ := hgo
      have HA2 := Lib.hid (HAsk.out k hk1 hks)
      have HV2 := Lib.hid (HVb.out k hk1 hk4)
      have HS0 : Hid (∀ off, vI L off 0 = ((L.getD 0 0).toNat : Int) - off) := fun _ => rfl
      have HSj : Hid (∀ off j, vI L off (j + 1) = 64 * vI L off j + ((L.getD (j + 1) 0).toNat : Int) - 128) := fun _ _ => rfl
      have b0 := HB.out 0 (by omega)
      have g0 : (L.getD 0 0).toNat < 256 := UInt8.toNat_lt _
      rcases (show k = 1 ∨ k = 2 ∨ k = 3 ∨ k = 4 by omega) with rfl | rfl | rfl | rfl
      · have HA3 : Hid (∀ V, vI L 0 0 = V → (∃ r : Nat, dec L = some (r, 1) ∧ V = r ∧ isRn r = true ∧ byts r = L.take 1) ∨ ((∀ r, dec L ≠ some (r, 1)) ∧ (isI V = false ∨ ∃ r : Nat, V = r ∧ isRn r = true ∧ byts r ≠ L.take 1))) := fun V hV => by
          have := HA2.out
          rw [show vI L (offI 1) (1 - 1) = V from hV] at this
          exact this
        have HV3 : Hid (∀ j, j ≤ 3 → -900000000 ≤ vI L 0 j ∧ vI L 0 j ≤ 900000000) := HV2.out
        have HSj : Hid (∀ j, vI L 0 (j + 1) = 64 * vI L 0 j + ((L.getD (j + 1) 0).toNat : Int) - 128) := fun _ => rfl
        have hst : ((L.getD 0 0).toNat : Int) - 0 = vI L 0 0 := rfl
        generalize (L.getD 0 0).toNat = y0 at *
        clear HA2 HV2
        go_wp2_with fail
        go_loopw [5, 6] (fun v i wr2 => ∃ j : Nat, j ≤ 0 ∧ v = .int .i64 (vI L 0 j) ∧ i = .int .i64 (1 + (j : Int)) ∧ wr2 = wr) (fun _ i _ => 1 - (intOf i).toNat)
        case atStart => exact ⟨0, by omega, by first | (rw [← hst]; done) | (rw [← hst]; simp), rfl, rfl⟩
        case round =>
          obtain ⟨j, hj, rfl, rfl, rfl⟩ := hrel
          by_cases hjk : j < 0
          · exact absurd hjk (Nat.not_lt_zero _)
          · obtain rfl : j = 0 := by omega
            have hVj := HV3.out 0 (by omega)
            obtain ⟨V, hV⟩ : ∃ V, vI L 0 0 = V := ⟨_, rfl⟩
            have hA := HA3.out V hV
            rw [hV] at hVj ⊢
            clear hst b0 hV
            have CI := Lib.hid (is_any V wr (by omega))
            rcases hA with ⟨r, hd, rfl, hr, hb⟩ | ⟨hnd, hA⟩
            · have HR := Lib.hid (HYes.out r 1 hd)
              have CBy := Lib.hid (fun W => bytes_any r W hr)
              rw [isI_nat, hr] at CI
              rw [hb] at CBy
              have hcut := HT.out 1
              have hsame : ((utxt (L.take 1)).toList == (utxt (L.take 1)).toList) = true := by simp
              go_wp2_with fail
              refine CI.out.mono ?_
              rintro e w1 ⟨rfl, rfl⟩
              go_wp2_with fail
              go_region_with (go_at_call 31; refine (CBy.out _).mono ?_; rintro e w2 ⟨rfl, hb2⟩; have HB2 : Hid (Below w.heap.size w w2) := (by first | exact HBw.out.drew.trans (hb2.mono HBw.out.size) | exact HBw.out.trans (hb2.mono HBw.out.size)))
              go_wp2
              go_ret2
              exact ⟨by rw [HR.out]; rfl, HB2.out⟩
            · have HN2 : Hid (∀ m, 1 ≤ m → m < 1 + 1 → ∀ r, dec L ≠ some (r, m)) := fun m h1 h2 r => by
                by_cases hm : m = 1
                · rw [hm]; exact hnd r
                · exact HN.out m h1 (by omega) r
              rcases hA with hf | ⟨r, rfl, hr, hb⟩
              · rw [hf] at CI
                go_wp2_with fail
                refine CI.out.mono ?_
                rintro e w1 ⟨rfl, rfl⟩
                go_wp2
                go_region
                go_wp2
                go_roundw
                case rel => exact ⟨1 + 1, by omega, by omega, by go_num, HN2.out, by first | exact HBw.out | exact HBw.out.drew⟩
                case measure => simp [intOf]
              · have CBy := Lib.hid (fun W => bytes_any r W hr)
                rw [isI_nat, hr] at CI
                have hcut := HT.out 1
                have hdiff : ((utxt (byts r)).toList == (utxt (L.take 1)).toList) = false := ustr_diff (fun e => hb (utxt_inj e))
                go_wp2_with fail
                refine CI.out.mono ?_
                rintro e w1 ⟨rfl, rfl⟩
                go_wp2_with fail
                go_region_with (go_at_call 31; refine (CBy.out _).mono ?_; rintro e w2 ⟨rfl, hb2⟩; have HB2 : Hid (Below w.heap.size w w2) := (by first | exact HBw.out.drew.trans (hb2.mono HBw.out.size) | exact HBw.out.trans (hb2.mono HBw.out.size)))
                go_wp2
                go_roundw
                case rel => exact ⟨1 + 1, by omega, by omega, by go_num, HN2.out, HB2.out⟩
                case measure => simp [intOf]
      · have HA3 : Hid (∀ V, vI L 192 1 = V → (∃ r : Nat, dec L = some (r, 2) ∧ V = r ∧ isRn r = true ∧ byts r = L.take 2) ∨ ((∀ r, dec L ≠ some (r, 2)) ∧ (isI V = false ∨ ∃ r : Nat, V = r ∧ isRn r = true ∧ byts r ≠ L.take 2))) := fun V hV => by
          have := HA2.out
          rw [show vI L (offI 2) (2 - 1) = V from hV] at this
          exact this
        have HV3 : Hid (∀ j, j ≤ 3 → -900000000 ≤ vI L 192 j ∧ vI L 192 j ≤ 900000000) := HV2.out
        have HSj : Hid (∀ j, vI L 192 (j + 1) = 64 * vI L 192 j + ((L.getD (j + 1) 0).toNat : Int) - 128) := fun _ => rfl
        have hst : ((L.getD 0 0).toNat : Int) - 192 = vI L 192 0 := rfl
        generalize (L.getD 0 0).toNat = y0 at *
        clear HA2 HV2
        go_wp2_with fail
        go_loopw [5, 6] (fun v i wr2 => ∃ j : Nat, j ≤ 1 ∧ v = .int .i64 (vI L 192 j) ∧ i = .int .i64 (1 + (j : Int)) ∧ wr2 = wr) (fun _ i _ => 2 - (intOf i).toNat)
        case atStart => exact ⟨0, by omega, by first | (rw [← hst]; done) | (rw [← hst]; simp), rfl, rfl⟩
        case round =>
          obtain ⟨j, hj, rfl, rfl, rfl⟩ := hrel
          by_cases hjk : j < 1
          · have hbj := HB.out (j + 1) (by omega)
            have g1 : (L.getD (j + 1) 0).toNat < 256 := UInt8.toNat_lt _
            have e1 : (1 + (j : Int)).toNat = j + 1 := by omega
            have i1 : 0 ≤ 1 + (j : Int) := by omega
            have i2 : 1 + (j : Int) < (s.size : Int) := by omega
            have hVj := HV3.out j (by omega)
            have hSj := Lib.hid (HSj.out j)
            clear hst b0
            generalize (L.getD (j + 1) 0).toNat = y at *
            generalize vI L 192 j = x at *
            obtain ⟨v1, v2⟩ := hVj
            go_wp2
            go_roundw
            case rel => exact ⟨j + 1, by omega, by rw [hSj.out], (by first | (congr 1; omega) | go_num), by first | rfl | trivial⟩
            case measure => simp [intOf]; omega
          · obtain rfl : j = 1 := by omega
            have hVj := HV3.out 1 (by omega)
            obtain ⟨V, hV⟩ : ∃ V, vI L 192 1 = V := ⟨_, rfl⟩
            have hA := HA3.out V hV
            rw [hV] at hVj ⊢
            clear hst b0 hV
            have CI := Lib.hid (is_any V wr (by omega))
            rcases hA with ⟨r, hd, rfl, hr, hb⟩ | ⟨hnd, hA⟩
            · have HR := Lib.hid (HYes.out r 2 hd)
              have CBy := Lib.hid (fun W => bytes_any r W hr)
              rw [isI_nat, hr] at CI
              rw [hb] at CBy
              have hcut := HT.out 2
              have hsame : ((utxt (L.take 2)).toList == (utxt (L.take 2)).toList) = true := by simp
              go_wp2_with fail
              refine CI.out.mono ?_
              rintro e w1 ⟨rfl, rfl⟩
              go_wp2_with fail
              go_region_with (go_at_call 31; refine (CBy.out _).mono ?_; rintro e w2 ⟨rfl, hb2⟩; have HB2 : Hid (Below w.heap.size w w2) := (by first | exact HBw.out.drew.trans (hb2.mono HBw.out.size) | exact HBw.out.trans (hb2.mono HBw.out.size)))
              go_wp2
              go_ret2
              exact ⟨by rw [HR.out]; rfl, HB2.out⟩
            · have HN2 : Hid (∀ m, 1 ≤ m → m < 2 + 1 → ∀ r, dec L ≠ some (r, m)) := fun m h1 h2 r => by
                by_cases hm : m = 2
                · rw [hm]; exact hnd r
                · exact HN.out m h1 (by omega) r
              rcases hA with hf | ⟨r, rfl, hr, hb⟩
              · rw [hf] at CI
                go_wp2_with fail
                refine CI.out.mono ?_
                rintro e w1 ⟨rfl, rfl⟩
                go_wp2
                go_region
                go_wp2
                go_roundw
                case rel => exact ⟨2 + 1, by omega, by omega, by go_num, HN2.out, by first | exact HBw.out | exact HBw.out.drew⟩
                case measure => simp [intOf]
              · have CBy := Lib.hid (fun W => bytes_any r W hr)
                rw [isI_nat, hr] at CI
                have hcut := HT.out 2
                have hdiff : ((utxt (byts r)).toList == (utxt (L.take 2)).toList) = false := ustr_diff (fun e => hb (utxt_inj e))
                go_wp2_with fail
                refine CI.out.mono ?_
                rintro e w1 ⟨rfl, rfl⟩
                go_wp2_with fail
                go_region_with (go_at_call 31; refine (CBy.out _).mono ?_; rintro e w2 ⟨rfl, hb2⟩; have HB2 : Hid (Below w.heap.size w w2) := (by first | exact HBw.out.drew.trans (hb2.mono HBw.out.size) | exact HBw.out.trans (hb2.mono HBw.out.size)))
                go_wp2
                go_roundw
                case rel => exact ⟨2 + 1, by omega, by omega, by go_num, HN2.out, HB2.out⟩
                case measure => simp [intOf]
      · have HA3 : Hid (∀ V, vI L 224 2 = V → (∃ r : Nat, dec L = some (r, 3) ∧ V = r ∧ isRn r = true ∧ byts r = L.take 3) ∨ ((∀ r, dec L ≠ some (r, 3)) ∧ (isI V = false ∨ ∃ r : Nat, V = r ∧ isRn r = true ∧ byts r ≠ L.take 3))) := fun V hV => by
          have := HA2.out
          rw [show vI L (offI 3) (3 - 1) = V from hV] at this
          exact this
        have HV3 : Hid (∀ j, j ≤ 3 → -900000000 ≤ vI L 224 j ∧ vI L 224 j ≤ 900000000) := HV2.out
        have HSj : Hid (∀ j, vI L 224 (j + 1) = 64 * vI L 224 j + ((L.getD (j + 1) 0).toNat : Int) - 128) := fun _ => rfl
        have hst : ((L.getD 0 0).toNat : Int) - 224 = vI L 224 0 := rfl
        generalize (L.getD 0 0).toNat = y0 at *
        clear HA2 HV2
        go_wp2_with fail
        go_loopw [5, 6] (fun v i wr2 => ∃ j : Nat, j ≤ 2 ∧ v = .int .i64 (vI L 224 j) ∧ i = .int .i64 (1 + (j : Int)) ∧ wr2 = wr) (fun _ i _ => 3 - (intOf i).toNat)
        case atStart => exact ⟨0, by omega, by first | (rw [← hst]; done) | (rw [← hst]; simp), rfl, rfl⟩
        case round =>
          obtain ⟨j, hj, rfl, rfl, rfl⟩ := hrel
          by_cases hjk : j < 2
          · have hbj := HB.out (j + 1) (by omega)
            have g1 : (L.getD (j + 1) 0).toNat < 256 := UInt8.toNat_lt _
            have e1 : (1 + (j : Int)).toNat = j + 1 := by omega
            have i1 : 0 ≤ 1 + (j : Int) := by omega
            have i2 : 1 + (j : Int) < (s.size : Int) := by omega
            have hVj := HV3.out j (by omega)
            have hSj := Lib.hid (HSj.out j)
            clear hst b0
            generalize (L.getD (j + 1) 0).toNat = y at *
            generalize vI L 224 j = x at *
            obtain ⟨v1, v2⟩ := hVj
            go_wp2
            go_roundw
            case rel => exact ⟨j + 1, by omega, by rw [hSj.out], (by first | (congr 1; omega) | go_num), by first | rfl | trivial⟩
            case measure => simp [intOf]; omega
          · obtain rfl : j = 2 := by omega
            have hVj := HV3.out 2 (by omega)
            obtain ⟨V, hV⟩ : ∃ V, vI L 224 2 = V := ⟨_, rfl⟩
            have hA := HA3.out V hV
            rw [hV] at hVj ⊢
            clear hst b0 hV
            have CI := Lib.hid (is_any V wr (by omega))
            rcases hA with ⟨r, hd, rfl, hr, hb⟩ | ⟨hnd, hA⟩
            · have HR := Lib.hid (HYes.out r 3 hd)
              have CBy := Lib.hid (fun W => bytes_any r W hr)
              rw [isI_nat, hr] at CI
              rw [hb] at CBy
              have hcut := HT.out 3
              have hsame : ((utxt (L.take 3)).toList == (utxt (L.take 3)).toList) = true := by simp
              go_wp2_with fail
              refine CI.out.mono ?_
              rintro e w1 ⟨rfl, rfl⟩
              go_wp2_with fail
              go_region_with (go_at_call 31; refine (CBy.out _).mono ?_; rintro e w2 ⟨rfl, hb2⟩; have HB2 : Hid (Below w.heap.size w w2) := (by first | exact HBw.out.drew.trans (hb2.mono HBw.out.size) | exact HBw.out.trans (hb2.mono HBw.out.size)))
              go_wp2
              go_ret2
              exact ⟨by rw [HR.out]; rfl, HB2.out⟩
            · have HN2 : Hid (∀ m, 1 ≤ m → m < 3 + 1 → ∀ r, dec L ≠ some (r, m)) := fun m h1 h2 r => by
                by_cases hm : m = 3
                · rw [hm]; exact hnd r
                · exact HN.out m h1 (by omega) r
              rcases hA with hf | ⟨r, rfl, hr, hb⟩
              · rw [hf] at CI
                go_wp2_with fail
                refine CI.out.mono ?_
                rintro e w1 ⟨rfl, rfl⟩
                go_wp2
                go_region
                go_wp2
                go_roundw
                case rel => exact ⟨3 + 1, by omega, by omega, by go_num, HN2.out, by first | exact HBw.out | exact HBw.out.drew⟩
                case measure => simp [intOf]
              · have CBy := Lib.hid (fun W => bytes_any r W hr)
                rw [isI_nat, hr] at CI
                have hcut := HT.out 3
                have hdiff : ((utxt (byts r)).toList == (utxt (L.take 3)).toList) = false := ustr_diff (fun e => hb (utxt_inj e))
                go_wp2_with fail
                refine CI.out.mono ?_
                rintro e w1 ⟨rfl, rfl⟩
                go_wp2_with fail
                go_region_with (go_at_call 31; refine (CBy.out _).mono ?_; rintro e w2 ⟨rfl, hb2⟩; have HB2 : Hid (Below w.heap.size w w2) := (by first | exact HBw.out.drew.trans (hb2.mono HBw.out.size) | exact HBw.out.trans (hb2.mono HBw.out.size)))
                go_wp2
                go_roundw
                case rel => exact ⟨3 + 1, by omega, by omega, by go_num, HN2.out, HB2.out⟩
                case measure => simp [intOf]
      · have HA3 : Hid (∀ V, vI L 240 3 = V → (∃ r : Nat, dec L = some (r, 4) ∧ V = r ∧ isRn r = true ∧ byts r = L.take 4) ∨ ((∀ r, dec L ≠ some (r, 4)) ∧ (isI V = false ∨ ∃ r : Nat, V = r ∧ isRn r = true ∧ byts r ≠ L.take 4))) := fun V hV => by
          have := HA2.out
          rw [show vI L (offI 4) (4 - 1) = V from hV] at this
          exact this
        have HV3 : Hid (∀ j, j ≤ 3 → -900000000 ≤ vI L 240 j ∧ vI L 240 j ≤ 900000000) := HV2.out
        have HSj : Hid (∀ j, vI L 240 (j + 1) = 64 * vI L 240 j + ((L.getD (j + 1) 0).toNat : Int) - 128) := fun _ => rfl
        have hst : ((L.getD 0 0).toNat : Int) - 240 = vI L 240 0 := rfl
        generalize (L.getD 0 0).toNat = y0 at *
        clear HA2 HV2
        go_wp2_with fail
        go_loopw [5, 6] (fun v i wr2 => ∃ j : Nat, j ≤ 3 ∧ v = .int .i64 (vI L 240 j) ∧ i = .int .i64 (1 + (j : Int)) ∧ wr2 = wr) (fun _ i _ => 4 - (intOf i).toNat)
        case atStart => exact ⟨0, by omega, by first | (rw [← hst]; done) | (rw [← hst]; simp), rfl, rfl⟩
        case round =>
          obtain ⟨j, hj, rfl, rfl, rfl⟩ := hrel
          by_cases hjk : j < 3
          · have hbj := HB.out (j + 1) (by omega)
            have g1 : (L.getD (j + 1) 0).toNat < 256 := UInt8.toNat_lt _
            have e1 : (1 + (j : Int)).toNat = j + 1 := by omega
            have i1 : 0 ≤ 1 + (j : Int) := by omega
            have i2 : 1 + (j : Int) < (s.size : Int) := by omega
            have hVj := HV3.out j (by omega)
            have hSj := Lib.hid (HSj.out j)
            clear hst b0
            generalize (L.getD (j + 1) 0).toNat = y at *
            generalize vI L 240 j = x at *
            obtain ⟨v1, v2⟩ := hVj
            go_wp2
            go_roundw
            case rel => exact ⟨j + 1, by omega, by rw [hSj.out], (by first | (congr 1; omega) | go_num), by first | rfl | trivial⟩
            case measure => simp [intOf]; omega
          · obtain rfl : j = 3 := by omega
            have hVj := HV3.out 3 (by omega)
            obtain ⟨V, hV⟩ : ∃ V, vI L 240 3 = V := ⟨_, rfl⟩
            have hA := HA3.out V hV
            rw [hV] at hVj ⊢
            clear hst b0 hV
            have CI := Lib.hid (is_any V wr (by omega))
            rcases hA with ⟨r, hd, rfl, hr, hb⟩ | ⟨hnd, hA⟩
            · have HR := Lib.hid (HYes.out r 4 hd)
              have CBy := Lib.hid (fun W => bytes_any r W hr)
              rw [isI_nat, hr] at CI
              rw [hb] at CBy
              have hcut := HT.out 4
              have hsame : ((utxt (L.take 4)).toList == (utxt (L.take 4)).toList) = true := by simp
              go_wp2_with fail
              refine CI.out.mono ?_
              rintro e w1 ⟨rfl, rfl⟩
              go_wp2_with fail
              go_region_with (go_at_call 31; refine (CBy.out _).mono ?_; rintro e w2 ⟨rfl, hb2⟩; have HB2 : Hid (Below w.heap.size w w2) := (by first | exact HBw.out.drew.trans (hb2.mono HBw.out.size) | exact HBw.out.trans (hb2.mono HBw.out.size)))
              go_wp2
              go_ret2
              exact ⟨by rw [HR.out]; rfl, HB2.out⟩
            · have HN2 : Hid (∀ m, 1 ≤ m → m < 4 + 1 → ∀ r, dec L ≠ some (r, m)) := fun m h1 h2 r => by
                by_cases hm : m = 4
                · rw [hm]; exact hnd r
                · exact HN.out m h1 (by omega) r
              rcases hA with hf | ⟨r, rfl, hr, hb⟩
              · rw [hf] at CI
                go_wp2_with fail
                refine CI.out.mono ?_
                rintro e w1 ⟨rfl, rfl⟩
                go_wp2
                go_region
                go_wp2
                go_roundw
                case rel => exact ⟨4 + 1, by omega, by omega, by go_num, HN2.out, by first | exact HBw.out | exact HBw.out.drew⟩
                case measure => simp [intOf]
              · have CBy := Lib.hid (fun W => bytes_any r W hr)
                rw [isI_nat, hr] at CI
                have hcut := HT.out 4
                have hdiff : ((utxt (byts r)).toList == (utxt (L.take 4)).toList) = false := ustr_diff (fun e => hb (utxt_inj e))
                go_wp2_with fail
                refine CI.out.mono ?_
                rintro e w1 ⟨rfl, rfl⟩
                go_wp2_with fail
                go_region_with (go_at_call 31; refine (CBy.out _).mono ?_; rintro e w2 ⟨rfl, hb2⟩; have HB2 : Hid (Below w.heap.size w w2) := (by first | exact HBw.out.drew.trans (hb2.mono HBw.out.size) | exact HBw.out.trans (hb2.mono HBw.out.size)))
                go_wp2
                go_roundw
                case rel => exact ⟨4 + 1, by omega, by omega, by go_num, HN2.out, HB2.out⟩
                case measure => simp [intOf]
    · have HR := Lib.hid (HNo.out fun m h1 h2 h3 r => HN.out m h1 (by omega) r)
      have hgo2 : ¬ ((k : Int) ≤ 4 ∧ (k : Int) ≤ (s.size : Int)) := by omega
      by_cases h4 : k ≤ 4
      · have h5 : ¬ (k : Int) ≤ (s.size : Int) := by omega
        go_wp2
        go_ret2
        exact ⟨by rw [HR.out]; rfl, HBw.out⟩
      · have h5 : ¬ (k : Int) ≤ 4 := by omega
        go_wp2
        go_ret2
        exact ⟨by rw [HR.out]; rfl, HBw.out⟩
end Go.Proofs.YtbblmpibekkbfaaDoor
