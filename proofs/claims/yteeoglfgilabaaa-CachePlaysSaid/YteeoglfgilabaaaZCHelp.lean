/- What the helpers of the statements on caches answer: pick, full, at, data, has, the source's Read. -/
import Derived.Test.YteeoglfgilabaaaZCKeep
import Derived.Test.YteeoglfgilabaaaZTextB
import Derived.BigQuiet
import Derived.Deep.QuietTactic
import Derived.Lib.MinMax

namespace Go.Proofs.Yteeoglfgilabaaa
open Go.RowKit

theorem _root_.Go.Proofs.Try.infoB : (Try.prog.info? 5).map (fun i => (i.zero, i.size, i.bytes)) = some (some (.int .u8 0), 1, 1) := by kernel_rfl
def pickI (c n : Int) : Int := (if c < 0 then -(c + 1) else c) % n
theorem pickI_lt (c n : Int) (hn : 0 < n) : 0 ≤ pickI c n ∧ pickI c n < n := ⟨Int.emod_nonneg _ (by omega), Int.emod_lt_of_pos _ hn⟩

set_option maxRecDepth 100000 in
set_option maxHeartbeats 400000 in
theorem pick_any (c n : Int) (w : World) (hc : -9223372036854775808 ≤ c ∧ c ≤ 9223372036854775807) (hn : 0 < n ∧ n ≤ 1000000) :
    Calls Try.prog 12 #[.int .i64 c, .int .i64 n] w fun e w' => e = .returned (.int .i64 (pickI c n)) ∧ w = w' := by
  have hne : (n == 0) = false := by simp; omega
  have hm1 : (n == -1) = false := by simp; omega
  by_cases h : c < 0
  · have HP : Hid (pickI c n = -((c + 1).tmod n)) := by
      show pickI c n = _; unfold pickI
      rw [if_pos h, ← Int.neg_tmod, Int.tmod_eq_emod_of_nonneg (by omega)]
    go_enter Try.func12, Try.ntmps12
    go_wp2
    go_ret
    exact ⟨by rw [HP.out]; rfl, rfl⟩
  · have HP : Hid (pickI c n = c % n) := by show pickI c n = _; unfold pickI; rw [if_neg h]
    have h0 : 0 ≤ c := by omega
    go_enter Try.func12, Try.ntmps12
    go_wp2
    go_ret
    exact ⟨by rw [HP.out]; rfl, rfl⟩

set_option maxRecDepth 100000 in
set_option maxHeartbeats 1000000 in
theorem full_any (c : Int) (w : World) :
    Calls Try.prog 20 #[.int .u8 c] w fun e w' => e = .returned (.string (textOf fun _ => c)) ∧ Below w.heap.size w w' := by
  obtain ⟨i0, hi, hz0, hz1, hz2⟩ := info_parts Try.infoB
  go_enter Try.func20, Try.ntmps20
  go_wp2_with (at_make; refine wpList_make_full _ rfl _ _ 74 rfl w.heap.size 5 i0 (.int .u8 0) 1 Try.underlying74 hi hz0 hz1 _ _ _ _ 256 rfl rfl rfl rfl (by rw [hz2]; decide) (by unfold maxLen; omega) (Nat.le_refl _) ?_)
  intro w1 hown hgrow
  have HR : Hid (Row w.heap.size w1 w.heap.size (fun _ => c) 0) := by
    show w1.ownsRow _ _ _ _ _ _
    rw [rowI_zero]
    rw [toList_madeCells_one] at hown
    exact hown
  have HB : Hid (Below w.heap.size w w1) := (Below.refl _ _).grown hgrow (Nat.le_refl _) (fun k h => by cases h)
  clear hown hgrow
  generalize hg : w.heap.size = g at *
  have HG := Lib.hid hg; clear hg
  go_wp2_with fail
  go_loopw [4] (fun i wr => ∃ k : Nat, k ≤ 256 ∧ i = .int .i64 k ∧ Hid (Row g wr g (fun _ => c) k) ∧ Hid (Below g w wr)) (fun i _ => 256 - (intOf i).toNat)
  case atStart => exact ⟨0, Nat.zero_le _, rfl, HR, HB⟩
  case round =>
    clear HR HB
    obtain ⟨k, hk, rfl, HR, HB⟩ := hrel
    by_cases hlt : k < 256
    · have hc := HR.out.cell k hlt
      have hf := HR.out.free k
      simp only [Nat.lt_irrefl, if_false] at hc
      go_wp2
      go_roundw
      case rel => exact ⟨k + 1, by omega, by go_num, HR.out.store hlt, HB.out.setCell (Nat.le_refl _) _⟩
      case measure => simp [intOf]; omega
    · have hk' : k = 256 := by omega
      subst hk'
      have hconv := HR.out.text
      obtain ⟨T, hT⟩ : ∃ T, textOf (fun _ => c) = T := ⟨_, rfl⟩
      rw [hT] at hconv
      have HT := Lib.hid hT; clear hT
      go_wp2
      go_ret
      exact ⟨by rw [HT.out]; rfl, by rw [HG.out]; exact HB.out⟩


/-- A block of one byte. -/
def fl (c : Int) : ByteArray := textOf fun _ => c
theorem fl_size (c : Int) : (fl c).size = 256 := textOf_size _
/-- What the source tells. -/
def told (i : Int) : ByteArray := if i < 0 ∨ 200 ≤ i then ⟨#[]⟩ else fl i
def toldE (i : Int) : Int := if i < 0 ∨ 200 ≤ i then 2 else 0
theorem told_size (i : Int) : (told i).size ≤ 256 := by
  unfold told; split
  · exact Nat.zero_le _
  · rw [fl_size]; exact Nat.le_refl _
set_option maxRecDepth 100000 in
set_option maxHeartbeats 1000000 in
theorem read_any (i : Int) (w : World) (v : Value) (hv : v = .agg #[]) :
    Calls Try.prog 21 #[v, .int .i64 i] w fun e w' => e = .returned (.tuple #[.string (told i), .int .i64 (toldE i)]) ∧ Below w.heap.size w w' := by
  subst hv
  by_cases h : i < 0 ∨ 200 ≤ i
  · have e1 : told i = ⟨#[]⟩ := by unfold told; rw [if_pos h]
    have e2 : toldE i = 2 := by unfold toldE; rw [if_pos h]
    rw [e1, e2]
    clear e1 e2
    by_cases h0 : i < 0
    · clear h
      go_enter Try.func21, Try.ntmps21
      go_wp2
      go_ret2
      exact ⟨rfl, (Below.refl _ _).alloc (Nat.le_refl _) _⟩
    · have h2 : 200 ≤ i := by omega
      clear h
      go_enter Try.func21, Try.ntmps21
      go_wp2
      go_ret2
      exact ⟨rfl, (Below.refl _ _).alloc (Nat.le_refl _) _⟩
  · have h1 : 0 ≤ i := by omega
    have h2 : i < 200 := by omega
    have e1 : told i = fl i := by unfold told; rw [if_neg h]
    have e2 : toldE i = 0 := by unfold toldE; rw [if_neg h]
    rw [e1, e2]
    have HF : Hid (∀ W, Calls Try.prog 20 #[.int .u8 i] W fun e w' => e = .returned (.string (fl i)) ∧ Below W.heap.size W w') := fun W => full_any i W
    have hw : IntKind.u8.wrap i = i := by
      show (i % 256 : Int) = i
      omega
    clear h e1 e2
    generalize fl i = T at *
    go_enter Try.func21, Try.ntmps21
    go_wp2_with fail
    refine (HF.out _).mono ?_
    rintro e w1 ⟨rfl, hb⟩
    have HB := Lib.hid hb; clear hb
    clear hw
    go_wp2
    go_ret2
    exact ⟨rfl, ((Below.refl _ _).alloc (Nat.le_refl _) _).trans (HB.out.mono (by simp))⟩
/-- Of which block an act speaks. -/
def atI (a : Int) : Int := if a.tmod 37 = 0 then a else pickI a 12
set_option maxRecDepth 100000 in
set_option maxHeartbeats 1000000 in
theorem at_any (op a b : Int) (bad : Bool) (w : World) (ha : -9223372036854775808 ≤ a ∧ a ≤ 9223372036854775807) :
    Calls Try.prog 19 #[.agg #[.int .i64 op, .int .i64 a, .int .u8 b, .bool bad]] w fun e w' => e = .returned (.int .i64 (atI a)) ∧ Below w.heap.size w w' := by
  by_cases h : a.tmod 37 = 0
  · have e1 : atI a = a := by unfold atI; rw [if_pos h]
    rw [e1]
    have h1 : (a.tmod 37 == 0) = true := by rw [h]; rfl
    clear h e1
    go_enter Try.func19, Try.ntmps19
    go_wp2
    go_ret
    exact ⟨rfl, (Below.refl _ _).alloc (Nat.le_refl _) _⟩
  · have e1 : atI a = pickI a 12 := by unfold atI; rw [if_neg h]
    rw [e1]
    have h1 : (a.tmod 37 == 0) = false := beq_eq_false_iff_ne.2 h
    have HP : Hid (∀ W, Calls Try.prog 12 #[.int .i64 a, .int .i64 12] W fun e w' => e = .returned (.int .i64 (pickI a 12)) ∧ W = w') := fun W => pick_any a 12 W ha (by omega)
    clear h e1
    generalize pickI a 12 = q at *
    go_enter Try.func19, Try.ntmps19
    go_wp2_with fail
    refine (HP.out _).mono ?_
    rintro e w1 ⟨rfl, rfl⟩
    go_wp2
    go_ret
    exact ⟨rfl, (Below.refl _ _).alloc (Nat.le_refl _) _⟩
/-- What is put. -/
def dataB (b : Int) (bad : Bool) : ByteArray := if bad then ⟨#[120]⟩ else fl b
set_option maxRecDepth 100000 in
set_option maxHeartbeats 1000000 in
theorem data_any (op a b : Int) (bad : Bool) (w : World) :
    Calls Try.prog 29 #[.agg #[.int .i64 op, .int .i64 a, .int .u8 b, .bool bad]] w fun e w' => e = .returned (.string (dataB b bad)) ∧ Below w.heap.size w w' := by
  cases bad
  · have e1 : dataB b false = fl b := rfl
    rw [e1]
    have HF : Hid (∀ W, Calls Try.prog 20 #[.int .u8 b] W fun e w' => e = .returned (.string (fl b)) ∧ Below W.heap.size W w') := fun W => full_any b W
    clear e1
    generalize fl b = T at *
    go_enter Try.func29, Try.ntmps29
    go_wp2_with fail
    refine (HF.out _).mono ?_
    rintro e w1 ⟨rfl, hb⟩
    have HB := Lib.hid hb; clear hb
    go_wp2
    go_ret
    exact ⟨rfl, ((Below.refl _ _).alloc (Nat.le_refl _) _).trans (HB.out.mono (by simp))⟩
  · have e1 : dataB b true = ⟨#[120]⟩ := rfl
    rw [e1]
    clear e1
    go_enter Try.func29, Try.ntmps29
    go_wp2
    go_ret
    exact ⟨rfl, (Below.refl _ _).alloc (Nat.le_refl _) _⟩
/-- The numbers of v. -/
def SlI (w : World) (v : Value) (O : List Int) : Prop := ∃ ao c, v = .slice ao O.length c ∧ (O = [] ∨ ∃ b, ao = some ⟨b, 0, none⟩ ∧ b < w.heap.size ∧ ∀ j (h : j < O.length), w.cell? ⟨b, j, none⟩ = some (.int .i64 O[j]))
theorem SlI.below {w w' : World} {v : Value} {O : List Int} (h : SlI w v O) (hb : Below w.heap.size w w') : SlI w' v O := by
  obtain ⟨ao, c, hv, h⟩ := h
  refine ⟨ao, c, hv, ?_⟩
  rcases h with h | ⟨b, e, hlt, hc⟩
  · exact .inl h
  · exact .inr ⟨b, e, Nat.lt_of_lt_of_le hlt hb.size, fun j hj => (hb.cell (p := ⟨b, j, none⟩) hlt).trans (hc j hj)⟩
theorem SlI.of_own {w : World} {B : Nat} {v : Value} {n : Nat} {O : List Int} (h : w.ownsRow B 3 1 v n (O.map (Value.int .i64))) : SlI w v O := by
  have hn : n = O.length := by have := h.1; simp at this; exact this.symm
  subst hn
  rcases h.2 with ⟨rfl, h0⟩ | ⟨g, cap, cur, rfl, _, hg, _⟩
  · exact ⟨none, 0, by rw [h0], .inl (List.eq_nil_of_length_eq_zero h0)⟩
  · refine ⟨some ⟨g, 0, none⟩, cap, rfl, .inr ⟨g, rfl, (Array.getElem?_eq_some_iff.1 hg).1, fun j hj => ?_⟩⟩
    rw [World.ownsRow.cellAt h j (by omega)]; simp [hj]
set_option maxRecDepth 100000 in
set_option maxHeartbeats 1000000 in
theorem has_any (O : List Int) (i : Int) (v : Value) (w : World) (h : SlI w v O) (hl : O.length ≤ 5000) :
    Calls Try.prog 24 #[v, .int .i64 i] w fun e w' => e = .returned (.bool (decide (i ∈ O))) ∧ w = w' := by
  obtain ⟨ao, c, rfl, hc⟩ := h
  obtain ⟨n, hn⟩ : ∃ n, O.length = n := ⟨_, rfl⟩
  have HN := Lib.hid hn
  have HC : Hid (∀ k (h : k < O.length), ∃ b, ao = some ⟨b, 0, none⟩ ∧ w.cell? ⟨b, k, none⟩ = some (.int .i64 O[k])) := by
    intro k hk
    rcases hc with rfl | ⟨b, e, hb, hc⟩
    · simp at hk
    · exact ⟨b, e, hc k hk⟩
  rw [hn] at hl ⊢
  clear hn hc
  go_enter Try.func24, Try.ntmps24
  go_wp2
  go_loop [5] (fun s => ∃ k : Nat, k ≤ n ∧ s = .int .i64 (k : Int) ∧ Hid (∀ j (hj : j < O.length), j < k → O[j] ≠ i)) (fun s => n - (intOf s).toNat)
  case atStart => exact ⟨0, Nat.zero_le _, rfl, (show ∀ _ _, _ from fun j _ h => absurd h (Nat.not_lt_zero _))⟩
  case round =>
    obtain ⟨k, hk, rfl, HP⟩ := hrel
    by_cases hlt : k < n
    · have hkz : (k : Int) < (n : Int) := by omega
      have hkl : k < O.length := by rw [HN.out]; exact hlt
      obtain ⟨b, rfl, ck⟩ := HC.out k hkl
      have HM : Hid (O[k] ∈ O) := List.getElem_mem hkl
      by_cases he : O[k] = i
      · rw [he] at ck
        have hii : (i == i) = true := by simp
        have HI : Hid (i ∈ O) := by show _; rw [← he]; exact HM.out
        clear he HM hkl
        go_wp2
        go_ret
        exact ⟨by rw [decide_eq_true HI.out]; rfl, rfl⟩
      · have hne : (O[k] == i) = false := beq_eq_false_iff_ne.2 he
        have HP2 : Hid (∀ j (hj : j < O.length), j < k + 1 → O[j] ≠ i) := by
          intro j hj hjk
          by_cases e : j = k
          · subst e; exact he
          · exact HP.out j hj (by omega)
        clear he HM
        generalize O[k] = y at *
        clear hkl
        go_wp2
        go_round
        case rel => exact ⟨k + 1, by omega, by go_num, HP2.out⟩
        case measure => simp [intOf]; omega
    · obtain rfl : k = n := by omega
      have hkz : ¬ (k : Int) < (k : Int) := by omega
      go_wp2
      go_ret
      have hD : decide (i ∈ O) = false := decide_eq_false (fun hm => by
        obtain ⟨j, hj, e⟩ := List.getElem_of_mem hm
        exact HP.out j hj (by rw [← HN.out]; exact hj) e)
      rw [hD]
      exact ⟨rfl, rfl⟩
end Go.Proofs.Yteeoglfgilabaaa
