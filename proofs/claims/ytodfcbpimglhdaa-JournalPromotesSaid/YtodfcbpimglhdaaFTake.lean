/- What takeWrites answers: the writes that the numbers of a head tell, if noughts alone stand behind them. -/
import Derived.Test.YtodfcbpimglhdaaFPack
import Derived.WalkMore
namespace Go.Proofs.Ytodfcbpimglhdaa.Fr
open Go.RowKit

theorem toFixed_bs (l : List UInt8) (w : World) (h4 : 4 ≤ l.length) (hs : l.length ≤ 10000) :
    Calls Try.prog 93 #[.string (bs l)] w fun e w' => e = .returned (.tuple #[.int .u32 ((nmAt l 0 : Nat) : Int), .string (bs (l.drop 4)), .bool true]) ∧ Below w.heap.size w w' := by
  refine (toFixed_some (bs l) w (by rw [bs_len]; exact h4) (by rw [bs_len]; unfold maxLen; omega)).mono fun e w' ⟨he, hb⟩ => ⟨?_, hb⟩
  have e0 (j : Nat) (hj : j < l.length) : (bs l)[j]'(by rw [bs_len]; exact hj) = l.getD j 0 := by simp [List.getD, hj]; rfl
  rw [he, e0 0 (by omega), e0 1 (by omega), e0 2 (by omega), e0 3 (by omega), bs_ext, bs_len, List.take_of_length_le (Nat.le_refl _)]
  rfl
theorem rtoFixed_bs (l : List UInt8) (w : World) (h4 : 4 ≤ l.length) (hs : l.length ≤ 10000) :
    Calls Try.prog 78 #[.string (bs l)] w fun e w' => e = .returned (.tuple #[.int .u32 ((nmAt l 0 : Nat) : Int), .string (bs (l.drop 4)), .bool true]) ∧ Below w.heap.size w w' := by
  refine (rtoFixed_some (bs l) w (by rw [bs_len]; exact h4) (by rw [bs_len]; unfold maxLen; omega)).mono fun e w' ⟨he, hb⟩ => ⟨?_, hb⟩
  have e0 (j : Nat) (hj : j < l.length) : (bs l)[j]'(by rw [bs_len]; exact hj) = l.getD j 0 := by simp [List.getD, hj]; rfl
  rw [he, e0 0 (by omega), e0 1 (by omega), e0 2 (by omega), e0 3 (by omega), bs_ext, bs_len, List.take_of_length_le (Nat.le_refl _)]
  rfl
/-- The reader at a place of a text. -/
theorem toFixed_at {T R : ByteArray} {q : List UInt8} {k : Nat} (w : World) (hT : T = bs (q.drop k)) (hR : R = bs (q.drop (k + 4))) (h4 : k + 4 ≤ q.length) (hs : q.length ≤ 10000) :
    Calls Try.prog 93 #[.string T] w fun e w' => e = .returned (.tuple #[.int .u32 ((nmAt q k : Nat) : Int), .string R, .bool true]) ∧ Below w.heap.size w w' := by
  have := toFixed_bs (q.drop k) w (by rw [List.length_drop]; omega) (by rw [List.length_drop]; omega)
  rw [nmAt_drop, List.drop_drop, Nat.add_zero, ← hT, ← hR] at this
  exact this
theorem rtoFixed_at {T R : ByteArray} {q : List UInt8} {k : Nat} (w : World) (hT : T = bs (q.drop k)) (hR : R = bs (q.drop (k + 4))) (h4 : k + 4 ≤ q.length) (hs : q.length ≤ 10000) :
    Calls Try.prog 78 #[.string T] w fun e w' => e = .returned (.tuple #[.int .u32 ((nmAt q k : Nat) : Int), .string R, .bool true]) ∧ Below w.heap.size w w' := by
  have := rtoFixed_bs (q.drop k) w (by rw [List.length_drop]; omega) (by rw [List.length_drop]; omega)
  rw [nmAt_drop, List.drop_drop, Nat.add_zero, ← hT, ← hR] at this
  exact this

/-- The writes that are taken, still without their data. -/
def takenL (q : List UInt8) (k : Nat) : List (Int × ByteArray) := (List.range k).map fun i => (((nmAt q (4 * i) : Nat) : Int), ⟨#[]⟩)
theorem takenL_len (q : List UInt8) (k : Nat) : (takenL q k).length = k := by simp [takenL]
theorem takenL_snoc (q : List UInt8) (k : Nat) : takenL q (k + 1) = takenL q k ++ [(((nmAt q (4 * k) : Nat) : Int), ⟨#[]⟩)] := by
  unfold takenL; rw [List.range_succ, List.map_append]; rfl
theorem own_pushW {B : Nat} {w1 : World} {v1 : Value} {M : List (Int × ByteArray)} {i : Int} {s : ByteArray} (hown : w1.ownsRow B 71 2 v1 (M.length + 1) (flatI M ++ [.int .i64 i, .string s])) : OwnW B w1 v1 (M ++ [(i, s)]) := by
  unfold OwnW
  rw [List.length_append, flatI_append]
  exact hown
theorem two_cells {w : World} {t : TypeId} {i : Int} {s : ByteArray} {g : Nat} (hg : w.heap.size = g) : ∀ (j : Nat) (u : Value), [Value.int .i64 i, Value.string s][j]? = some u → (w.alloc (.cells #[.int .i64 i, .string s] t)).cell? ((⟨g, 0, none⟩ : Addr).add j) = some u := by
  subst hg
  intro j u hu
  rw [add_at, Nat.zero_add, cell_at (heap_alloc_new ..)]
  rw [← hu]; simp
theorem two_one {i : Int} {s : ByteArray} : ∀ u ∈ [Value.int .i64 i, Value.string s], u.oneCell' = true := by
  intro u hu
  simp only [List.mem_cons, List.not_mem_nil, or_false] at hu
  rcases hu with rfl | rfl <;> rfl
theorem some_bytes {T : ByteArray} (h : 0 < T.size) : T.toList.isEmpty = false := by
  rw [ByteArray.toList_eq, List.isEmpty_eq_false_iff]
  intro e
  have := congrArg List.length e
  rw [str_len, List.length_nil] at this
  omega
def strLen : Value → Nat
  | .string s => s.size
  | _ => 0
theorem strLen_str (s : ByteArray) : strLen (.string s) = s.size := rfl

set_option maxRecDepth 100000 in
set_option maxHeartbeats 2000000 in
theorem take_any (n m : Nat) (q : List UInt8) (T0 : ByteArray) (w : World) (R : Ending → World → Prop) (hn : n ≤ m) (hm : m ≤ 100) (hq : q.length = 4 * m) (hT0 : T0 = bs q)
    (hno : takeB n m q = false → ∀ v w', Below w.heap.size w w' → R (.returned (.tuple #[v, .bool false])) w')
    (hyes : takeB n m q = true → ∀ v w', OwnW w.heap.size w' v (takenL q n) → Below w.heap.size w w' → R (.returned (.tuple #[v, .bool true])) w') :
    Calls Try.prog 104 #[.int .i64 (n : Int), .string T0] w R := by
  obtain ⟨i0, hi, hz0, hz1, hz2⟩ := info_parts Try.infoW
  have HZ2 := Lib.hid hz2; clear hz2
  have HNO := Lib.hid hno; clear hno
  have HYES := Lib.hid hyes; clear hyes
  have HQ := Lib.hid hq; clear hq
  have HT0 := Lib.hid hT0; clear hT0
  have hsz0 : T0.size ≤ 4 * m := by rw [HT0.out, bs_len, HQ.out]; exact Nat.le_refl _
  have hsz1 : 4 * m ≤ T0.size := by rw [HT0.out, bs_len, HQ.out]; exact Nat.le_refl _
  go_enter Try.func104, Try.ntmps104
  go_wp2_with fail
  go_step3
  go_wp2_with fail
  go_step3
  go_wp2_with fail
  go_loopw [1, 6] (fun t wv wr => ∃ k T, k ≤ m ∧ t = .string T ∧ T.size ≤ 4 * (m - k) ∧ 4 * (m - k) ≤ T.size ∧ Hid (T = bs (q.drop (4 * k))) ∧ Hid (∀ i, i < k → (i < n → nmAt q (4 * i) < 4096) ∧ (n ≤ i → nmAt q (4 * i) = 0)) ∧ Hid (OwnW w.heap.size wr wv (takenL q (min k n))) ∧ Hid (Below w.heap.size w wr)) (fun t _ _ => strLen t)
  case atStart => exact ⟨0, _, Nat.zero_le _, rfl, by omega, by omega, HT0, (fun i hi => by omega), by rw [Nat.zero_min]; exact OwnW.nil _ _, Below.refl _ _⟩
  case round =>
    obtain ⟨k, T, hk, rfl, hT1, hT2, HT, HF, HO, HB⟩ := hrel
    have hbr := HB.out.size
    obtain ⟨ao, c, hv, _⟩ := HO.out.sl
    rw [takenL_len] at hv
    subst hv
    by_cases hlt : k < m
    · obtain ⟨T2, hT3⟩ : ∃ T2, T2 = bs (q.drop (4 * k + 4)) := ⟨_, rfl⟩
      have CF := Lib.hid (toFixed_at wr HT.out hT3 (by rw [HQ.out]; omega) (by rw [HQ.out]; omega))
      have hz1' : T2.size ≤ 4 * (m - (k + 1)) := by rw [hT3, bs_len, List.length_drop, HQ.out]; omega
      have hz2' : 4 * (m - (k + 1)) ≤ T2.size := by rw [hT3, bs_len, List.length_drop, HQ.out]; omega
      have HT3 : Hid (T2 = bs (q.drop (4 * (k + 1)))) := hT3
      clear hT3
      obtain ⟨x, hx⟩ : ∃ x, nmAt q (4 * k) = x := ⟨_, rfl⟩
      have hxl := nmAt_lt q (4 * k)
      rw [hx] at CF hxl
      have HX := Lib.hid hx; clear hx
      have hTp : 0 < T.size := by omega
      by_cases hkn : k < n
      · have emin : min k n = k := by omega
        have emin2 : min (k + 1) n = k + 1 := by omega
        rw [emin] at HO ⊢
        by_cases hx4 : x < 4096
        · have HS := Lib.hid (takenL_snoc q k)
          rw [HX.out] at HS
          have hlen := takenL_len q k
          obtain ⟨M, hM⟩ : ∃ M, takenL q k = M := ⟨_, rfl⟩
          rw [hM] at HO HS hlen
          have HL := Lib.hid hlen
          clear hM hlen
          go_wp2_with fail
          refine CF.out.mono ?_
          rintro e w1 ⟨rfl, hb1⟩
          have HB1 : Hid (Below w.heap.size w w1) := HB.out.trans (hb1.mono hbr)
          have HO1 := Lib.hid (HO.out.below hb1)
          have hb1r := HB1.out.size
          clear hb1 CF
          go_wp2_with (at_builtin; (refine wpList_append_own _ rfl _ _ 42 rfl w.heap.size 71 i0 _ 2 24 Try.underlying42 hi hz0 hz1 HZ2.out rfl (by decide) _ M.length (flatI M) rfl (HO1.out.alloc _) _ 1 1 [.int .i64 x, .string ⟨#[]⟩] rfl rfl (two_cells (by simp)) two_one ?c3 ?c4 ?c5 ?_))
          case c3 => rw [HL.out]; unfold maxLen; omega
          case c4 => rw [HL.out]; omega
          case c5 => simp; omega
          intro v1 w2 hown hgrow _
          have HO2 : Hid (OwnW w.heap.size w2 v1 (takenL q (min (k + 1) n))) := by
            show OwnW _ _ _ _
            rw [emin2, HS.out]; exact own_pushW hown
          have HB2 : Hid (Below w.heap.size w w2) := (HB1.out.alloc hb1r _).grown hgrow (by simp; omega) (fun q hq => (HO1.out.lt q hq).1)
          clear hown hgrow
          go_wp2
          go_roundw
          case rel => exact ⟨k + 1, _, by omega, rfl, by omega, by omega, HT3, (fun i hi => by
              by_cases e : i = k
              · subst e; exact ⟨fun _ => by rw [HX.out]; exact hx4, fun h => by omega⟩
              · exact HF.out i (by omega)), HO2, HB2⟩
          case measure => simp [strLen]; omega
        · have HE : Hid (takeB n m q = false) := by
            show _ = _
            rw [Bool.eq_false_iff]
            intro hh
            have := ((takeB_iff n m q).1 hh k hlt).1 hkn
            rw [HX.out] at this
            exact hx4 this
          have hx5 : ((x : Int) != 0) = true := by simp; omega
          go_wp2_with fail
          refine CF.out.mono ?_
          rintro e w1 ⟨rfl, hb1⟩
          have HB1 : Hid (Below w.heap.size w w1) := HB.out.trans (hb1.mono hbr)
          clear hb1 CF
          go_wp2
          rw [some_bytes hTp]; exact HNO.out HE.out _ _ HB1.out
      · have emin : min k n = n := by omega
        have emin2 : min (k + 1) n = n := by omega
        rw [emin] at HO ⊢
        have hkn' : ¬ (n : Int) < (n : Int) := by omega
        by_cases hx0 : x = 0
        · subst hx0
          go_wp2_with fail
          refine CF.out.mono ?_
          rintro e w1 ⟨rfl, hb1⟩
          have HB1 : Hid (Below w.heap.size w w1) := HB.out.trans (hb1.mono hbr)
          have HO1 : Hid (OwnW w.heap.size w1 (.slice ao n c) (takenL q (min (k + 1) n))) := by
            show OwnW _ _ _ _
            rw [emin2]; exact HO.out.below hb1
          clear hb1 CF
          go_wp2
          go_roundw
          case rel => exact ⟨k + 1, _, by omega, rfl, by omega, by omega, HT3, (fun i hi => by
              by_cases e : i = k
              · subst e; exact ⟨fun h => by omega, fun _ => HX.out⟩
              · exact HF.out i (by omega)), HO1, HB1⟩
          case measure => simp [strLen]; omega
        · have HE : Hid (takeB n m q = false) := by
            show _ = _
            rw [Bool.eq_false_iff]
            intro hh
            have := ((takeB_iff n m q).1 hh k hlt).2 (by omega)
            rw [HX.out] at this
            exact hx0 this
          have hx5 : ((x : Int) != 0) = true := by simp; omega
          go_wp2_with fail
          refine CF.out.mono ?_
          rintro e w1 ⟨rfl, hb1⟩
          have HB1 : Hid (Below w.heap.size w w1) := HB.out.trans (hb1.mono hbr)
          clear hb1 CF
          go_wp2
          rw [some_bytes hTp]; exact HNO.out HE.out _ _ HB1.out
    · have hkm : k = m := by omega
      subst hkm
      have emin : min k n = n := by omega
      rw [emin] at HO ⊢
      have HE : Hid (takeB n k q = true) := (takeB_iff n k q).2 HF.out
      have hTz : T.size = 0 := by omega
      have hT0 : T = ⟨#[]⟩ := by
        apply ByteArray.ext
        exact Array.eq_empty_of_size_eq_zero hTz
      subst hT0
      go_wp2
      exact HYES.out HE.out _ _ HO.out HB.out
end Go.Proofs.Ytodfcbpimglhdaa.Fr
