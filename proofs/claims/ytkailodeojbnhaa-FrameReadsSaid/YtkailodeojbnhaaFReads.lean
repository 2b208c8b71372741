/- FrameReads, walked: for any texts, any number, any writes, any place and any byte it answers true. -/
import Derived.Test.YtkailodeojbnhaaFUnpR
import Derived.Test.YtkailodeojbnhaaFMore
import Derived.Test.YtkailodeojbnhaaFRowT
import Derived.Test.YtkailodeojbnhaaFHeads
import Derived.Test.YtkailodeojbnhaaFBack
namespace Go.Proofs.Ytkailodeojbnhaa
open Go.RowKit

theorem unp_len (L : List ByteArray) : (unp L).2.1.length ≤ 48 := by
  cases L with
  | nil => simp [unp]
  | cons s D =>
    rw [unp_cons]
    by_cases hf : formB s D = true
    · rw [if_pos hf]
      have h48 := ((headB_iff _).1 ((formB_iff s D).1 hf).1).2.2.2.2.1
      by_cases hs : sumB s D = true
      · rw [if_pos hs]
        show ((blocksOf s.data.toList).zip (D.take (nmAt s.data.toList 12))).length ≤ 48
        rw [List.length_zip, blocksOf_len]; omega
      · rw [if_neg hs]; simp
    · rw [if_neg hf]; simp
theorem same_b {x : Bool} : (x != x) = false := by cases x <;> rfl

set_option maxRecDepth 100000 in
set_option maxHeartbeats 4000000 in
theorem reads_any (L : List ByteArray) (v : Value) (w : World) (hl : L.length ≤ 1000) (hs : ∀ d ∈ L, d.size ≤ maxLen) (h : SlS w v L) :
    Calls Try.prog 16 #[v] w fun e w' => e = .returned (.bool true) ∧ Below w.heap.size w w' := by
  have CU := Lib.hid (unpack_any L v w hl hs h)
  have CR : Hid (∀ W, Below w.heap.size w W → Calls Try.prog 29 #[v] W fun e w' => ∃ u, e = .returned (.tuple #[.int .u64 (((unp L).1 : Nat) : Int), u, .int .i64 (((unp L).2.2 : Nat) : Int)]) ∧ OwnW W.heap.size w' u (unp L).2.1 ∧ Below W.heap.size W w') := fun W hW => runpack_any L v W hl hs (h.below hW)
  have CW : Hid (∀ W a b, SlW W a (unp L).2.1 → SlW W b (unp L).2.1 → Calls Try.prog 19 #[a, b] W fun e w' => e = .returned (.bool true) ∧ Below W.heap.size W w') := fun W a b h1 h2 => sameW_any _ a b W (maxLen_of (by have := unp_len L; omega)) h1 h2
  generalize unp L = un at *
  obtain ⟨us, uw, ue⟩ := un
  simp only at CU CR CW
  obtain ⟨ao, c, hv, _, hcell⟩ := h
  have HC : Hid (∀ k (hk : k < L.length), ∃ b off, ao = some ⟨b, off, none⟩ ∧ b < w.heap.size ∧ w.cell? ⟨b, off + k, none⟩ = some (.string L[k])) := by
    intro k hk
    rcases hcell with rfl | ⟨b, off, e, hb, hw⟩
    · simp at hk
    · exact ⟨b, off, e, hb, hw k hk⟩
  clear hcell hs
  obtain ⟨n, hn⟩ : ∃ n, L.length = n := ⟨_, rfl⟩
  rw [hn] at hl hv
  have HN := Lib.hid hn; clear hn
  subst hv
  have n1 : ((us : Int) != (us : Int)) = false := by simp
  have n2 : ((ue : Int) != (ue : Int)) = false := by simp
  go_enter Try.func16, Try.ntmps16
  go_wp2_with fail
  refine CU.out.mono ?_
  rintro e w1 ⟨u1, rfl, ho1, hb1⟩
  have HB1 := Lib.hid hb1
  have HO1 := Lib.hid ho1.sl
  clear hb1 ho1 CU
  go_wp2_with fail
  refine (CR.out _ HB1.out).mono ?_
  rintro e w2 ⟨u2, rfl, ho2, hb2⟩
  have HB2 := Lib.hid (HB1.out.trans (hb2.mono HB1.out.size))
  have HO2 := Lib.hid ho2.sl
  have HO1' := Lib.hid (HO1.out.below hb2)
  clear hb2 ho2 CR HO1 HB1
  go_wp2_with fail
  refine (CW.out _ _ _ HO1'.out HO2.out).mono ?_
  rintro e w3 ⟨rfl, hb3⟩
  have HB3 := Lib.hid (HB2.out.trans (hb3.mono HB2.out.size))
  clear hb3 CW HO1' HO2 HB2
  go_wp2_with fail
  go_loopw [9] (fun i wr => ∃ k : Nat, k ≤ n ∧ k ≤ 4 ∧ i = .int .i64 k ∧ Hid (Below w.heap.size w wr)) (fun i _ => n - (intOf i).toNat)
  case atStart => exact ⟨0, Nat.zero_le _, Nat.zero_le _, rfl, HB3⟩
  case round =>
    clear HB3
    obtain ⟨k, hk, hk4, rfl, HB⟩ := hrel
    have hbr := HB.out.size
    by_cases hlt : k < n
    · have i1 : (k : Int) < (n : Int) := by omega
      by_cases hl4 : k < 4
      · have i2 : (k : Int) < 4 := by omega
        have hkL : k < L.length := by rw [HN.out]; exact hlt
        obtain ⟨b, off, rfl, hb, c0⟩ := HC.out k hkL
        have c1 := (HB.out.cell (p := ⟨b, off + k, none⟩) hb).trans c0
        clear c0
        have CH : Hid (∀ W, Calls Try.prog 18 #[.string L[k]] W fun e w' => e = .returned (.tuple #[.int .u64 (((hd L[k]).1 : Nat) : Int), .int .i64 (((hd L[k]).2.1 : Nat) : Int), .bool (hd L[k]).2.2]) ∧ Below W.heap.size W w') := fun W => head_any _ W
        have CY : Hid (∀ W, Calls Try.prog 30 #[.string L[k]] W fun e w' => e = .returned (.tuple #[.int .u64 (((hd L[k]).1 : Nat) : Int), .int .i64 (((hd L[k]).2.1 : Nat) : Int), .bool (hd L[k]).2.2]) ∧ Below W.heap.size W w') := fun W => rhead_any _ W
        generalize hd L[k] = hh at *
        obtain ⟨h1, h2, h3⟩ := hh
        simp only at CH CY
        generalize L[k] = sk at *
        have m1 : ((h1 : Int) != (h1 : Int)) = false := by simp
        have m2 : ((h2 : Int) != (h2 : Int)) = false := by simp
        have m3 := same_b (x := h3)
        have hbk : b < wr.heap.size := by omega
        go_wp2_with fail
        refine (CH.out _).mono ?_
        rintro e w5 ⟨rfl, hb5⟩
        have HB5 := Lib.hid (HB.out.trans (hb5.mono hbr))
        have c2 := (hb5.cell (p := ⟨b, off + k, none⟩) hbk).trans c1
        clear hb5 CH
        go_wp2_with fail
        refine (CY.out _).mono ?_
        rintro e w6 ⟨rfl, hb6⟩
        have HB6 := Lib.hid (HB5.out.trans (hb6.mono HB5.out.size))
        clear hb6 CY
        go_wp2
        go_roundw
        case rel => exact ⟨k + 1, by omega, by omega, by go_num, HB6⟩
        case measure => simp [intOf]; omega
      · have i2 : ¬ (k : Int) < 4 := by omega
        go_wp2
        go_ret
        exact ⟨rfl, HB.out⟩
    · have i1 : ¬ (k : Int) < (n : Int) := by omega
      go_wp2
      go_ret
      exact ⟨rfl, HB.out⟩
end Go.Proofs.Ytkailodeojbnhaa
