/- Places in a list that rises (a search by halves), and room among extents. -/
import Derived.Test.YtfmnbabkdpiboaaZIBase
import Derived.Deep.RegionHeld3
import Derived.Deep.QuietTactic

namespace Go.Proofs.Ytfmnbabkdpiboaa
open Go.RowKit
open Fr (below_drewN)

/-- Where x would stand by its start. -/
structure PlaceE (L : List (Int × Int)) (s : Int) (at9 : Nat) : Prop where
  le : at9 ≤ L.length
  lo : ∀ j (h : j < L.length), j < at9 → L[j].1 < s
  hi : ∀ j (h : j < L.length), at9 ≤ j → s ≤ L[j].1
/-- Whether it is there. -/
def isAt (L : List (Int × Int)) (s : Int) (k : Nat) : Bool := decide ((L[k]?).map (·.1) = some s)
theorem rises {L : List (Int × Int)} (hp : L.Pairwise fun x y => x.1 < y.1) {i j : Nat} (hij : i ≤ j) (hj : j < L.length) : (L[i]'(by omega)).1 ≤ L[j].1 := by
  by_cases e : i = j
  · subst e; exact Int.le_refl _
  · exact Int.le_of_lt (List.pairwise_iff_getElem.1 hp i j (by omega) hj (by omega))
set_option maxRecDepth 100000 in
set_option maxHeartbeats 4000000 in
theorem placeE_any (L : List (Int × Int)) (v : Value) (s : Int) (w : World) (h : SlE w v L) (hn : L.length ≤ 100000) (hp : L.Pairwise fun x y => x.1 < y.1) :
    Calls Try.prog 46 #[v, .int .i64 s, .func (.func 47) #[] #[]] w fun e w' => ∃ (k : Nat), e = .returned (.tuple #[.int .i64 (k : Int), .bool (isAt L s k)]) ∧ Hid (PlaceE L s k) ∧ Hid (Below w.heap.size w w') := by
  obtain ⟨ao, c, rfl, hat⟩ := h.shape
  have HAt := Lib.hid hat; clear hat h
  have HB := Lib.hid (Below.refl w.heap.size w)
  obtain ⟨n, hl⟩ : ∃ n, L.length = n := ⟨_, rfl⟩
  have HN := Lib.hid hl
  have HP := Lib.hid hp
  rw [hl] at hn ⊢
  clear hl hp
  go_enter Try.func46, Try.ntmps46
  go_wp2_with fail
  go_loopw [8, 9] (fun lv hv wr => ∃ lo hi : Nat, lo ≤ hi ∧ hi ≤ n ∧ lv = .int .i64 (lo : Int) ∧ hv = .int .i64 (hi : Int) ∧ Hid (∀ j (h : j < L.length), j < lo → L[j].1 < s) ∧ Hid (∀ j (h : j < L.length), hi ≤ j → s ≤ L[j].1) ∧ Hid (Below w.heap.size w wr)) (fun lv hv _ => (intOf hv).toNat - (intOf lv).toNat)
  case atStart => exact ⟨0, n, Nat.zero_le _, Nat.le_refl _, rfl, rfl, (show ∀ j (h : j < L.length), j < 0 → L[j].1 < s from fun j _ h => absurd h (Nat.not_lt_zero _)), (show ∀ j (h : j < L.length), n ≤ j → s ≤ L[j].1 from fun j h1 h2 => absurd h2 (by have := HN.out; omega)), HB⟩
  case round =>
    obtain ⟨lo, hi, hlh, hhn, rfl, rfl, HLo, HHi, HBr⟩ := hrel
    have hbr := HBr.out.size
    by_cases hlt : lo < hi
    · have hz : (lo : Int) < (hi : Int) := by omega
      obtain ⟨mid, hmid⟩ : ∃ mid, mid = lo + (hi - lo) / 2 := ⟨_, rfl⟩
      have hm1 : lo ≤ mid := by omega
      have hm2 : mid < hi := by omega
      have ww1 : IntKind.i64.wrap ((hi : Int) - (lo : Int)) = (hi : Int) - (lo : Int) := IntWalk.i64_in _ (by omega)
      have ww2 : ((hi : Int) - (lo : Int)).tdiv 2 = ((hi : Int) - (lo : Int)) / 2 := Int.tdiv_eq_ediv_of_nonneg (by omega)
      have ww3 : IntKind.i64.wrap (((hi : Int) - (lo : Int)) / 2) = ((hi : Int) - (lo : Int)) / 2 := IntWalk.i64_in _ (by omega)
      have ww5 : (lo : Int) + ((hi : Int) - (lo : Int)) / 2 = (mid : Int) := by omega
      have ww4 : IntKind.i64.wrap (mid : Int) = (mid : Int) := IntWalk.i64_in _ (by omega)
      have ww6 : IntKind.i64.wrap ((mid : Int) + 1) = (mid : Int) + 1 := IntWalk.i64_in _ (by omega)
      have hmL : mid < L.length := by rw [HN.out]; omega
      obtain ⟨bb, off, rfl, x0, x1⟩ := HAt.out _ HBr.out mid hmL
      have hmz : (mid : Int) < (n : Int) := by omega
      have HC := Lib.hid fun W => startOf_any L[mid] W
      have HA1 : Hid (L[mid].1 < s → ∀ j (h : j < L.length), j < mid + 1 → L[j].1 < s) := fun h1 j hj h2 => Int.lt_of_le_of_lt (rises HP.out (by omega) hmL) h1
      have HA2 : Hid (¬ L[mid].1 < s → ∀ j (h : j < L.length), mid ≤ j → s ≤ L[j].1) := fun h1 j hj h2 => Int.le_trans (by omega) (rises HP.out h2 hj)
      clear hmid
      generalize L[mid] = y at *
      clear hmL
      obtain ⟨xs, xc⟩ := y
      dsimp only at x0 x1 HC HA1 HA2
      by_cases hlt9 : xs < s
      · have HA3 := Lib.hid (HA1.out hlt9)
        clear HA1 HA2 HLo
        go_wp2_with (go_at_call 47; refine (HC.out _).mono ?_; rintro e w2 ⟨rfl, hb2⟩; have HB2 := Lib.hid hb2; clear hb2)
        go_roundw
        case rel => exact ⟨mid + 1, hi, by omega, by omega, by go_num, rfl, HA3, HHi, HBr.out.trans (HB2.out.mono hbr)⟩
        case measure => simp [intOf]; omega
      · have HA3 := Lib.hid (HA2.out hlt9)
        clear HA1 HA2 HHi
        go_wp2_with (go_at_call 47; refine (HC.out _).mono ?_; rintro e w2 ⟨rfl, hb2⟩; have HB2 := Lib.hid hb2; clear hb2)
        go_roundw
        case rel => exact ⟨lo, mid, by omega, by omega, rfl, rfl, HLo, HA3, HBr.out.trans (HB2.out.mono hbr)⟩
        case measure => simp [intOf]; omega
    · obtain rfl : lo = hi := by omega
      have hz : ¬ (lo : Int) < (lo : Int) := by omega
      have HPl : Hid (PlaceE L s lo) := ⟨by rw [HN.out]; exact hhn, HLo.out, HHi.out⟩
      by_cases hin : lo < n
      · have hnz : (lo : Int) < (n : Int) := by omega
        have hmL : lo < L.length := by rw [HN.out]; exact hin
        obtain ⟨bb, off, rfl, x0, x1⟩ := HAt.out _ HBr.out lo hmL
        have HC := Lib.hid fun W => startOf_any L[lo] W
        have HI : Hid (isAt L s lo = decide (L[lo].1 = s)) := by
          show _ = _
          unfold isAt
          rw [List.getElem?_eq_getElem hmL]; simp
        generalize L[lo] = y at *
        clear hmL
        obtain ⟨xs, xc⟩ := y
        dsimp only at x0 x1 HC HI
        clear HLo HHi HP
        by_cases he : xs = s
        · subst he
          go_wp2_with (go_at_call 47; refine (HC.out _).mono ?_; rintro e w2 ⟨rfl, hb2⟩; have HB2 := Lib.hid hb2; clear hb2)
          go_ret2
          exact ⟨lo, by rw [HI.out]; simp, HPl, HBr.out.trans (HB2.out.mono hbr)⟩
        · go_wp2_with (go_at_call 47; refine (HC.out _).mono ?_; rintro e w2 ⟨rfl, hb2⟩; have HB2 := Lib.hid hb2; clear hb2)
          go_ret2
          exact ⟨lo, by rw [HI.out]; simp [he], HPl, HBr.out.trans (HB2.out.mono hbr)⟩
      · have hnz : ¬ (lo : Int) < (n : Int) := by omega
        have HI : Hid (isAt L s lo = false) := by
          show _ = _
          unfold isAt
          rw [List.getElem?_eq_none (by rw [HN.out]; omega)]; simp
        clear HLo HHi HP
        go_wp2_with fail
        go_ret2
        exact ⟨lo, by rw [HI.out]; rfl, HPl, HBr.out⟩

/-! Room. -/
/-- What is used: apart, rising by Starts, each of some blocks. -/
structure Used (L : List (Int × Int)) : Prop where
  rise : L.Pairwise fun x y => x.1 < y.1
  apart : L.Pairwise Apart
  some : ∀ x ∈ L, 1 ≤ x.2
  fit : ∀ x ∈ L, I64 x.1 ∧ I64 (x.1 + x.2)
theorem Used.ends {L : List (Int × Int)} (h : Used L) {i j : Nat} (hij : i < j) (hj : j < L.length) : (L[i]'(by omega)).1 + (L[i]'(by omega)).2 ≤ L[j].1 := by
  have h1 := List.pairwise_iff_getElem.1 h.rise i j (by omega) hj hij
  have h2 := List.pairwise_iff_getElem.1 h.apart i j (by omega) hj hij
  have h3 := h.some L[j] (List.getElem_mem hj)
  rcases h2 with h2 | h2 <;> omega
/-- Whether an extent has room at its place. -/
def roomB (L : List (Int × Int)) (x : Int × Int) (k : Nat) : Bool := !(isAt L x.1 k) && ((decide (k = 0) || decide ((((L[k - 1]?).getD (0, 0)).1 + ((L[k - 1]?).getD (0, 0)).2) ≤ x.1)) && (decide (k = L.length) || decide (x.1 + x.2 ≤ ((L[k]?).getD (0, 0)).1)))
theorem getD_at {L : List (Int × Int)} {k : Nat} (h : k < L.length) : (L[k]?).getD (0, 0) = L[k] := by rw [List.getElem?_eq_getElem h]; rfl
theorem roomB_iff {L : List (Int × Int)} {x : Int × Int} {k : Nat} (hu : Used L) (hp : PlaceE L x.1 k) (hx : 1 ≤ x.2) : roomB L x k = true ↔ ∀ y ∈ L, Apart y x := by
  have hk := hp.le
  unfold roomB isAt
  simp only [Bool.and_eq_true, Bool.or_eq_true, Bool.not_eq_true', decide_eq_true_eq, decide_eq_false_iff_not]
  constructor
  · rintro ⟨h0, h1, h2⟩ y hy
    obtain ⟨j, hj, rfl⟩ := List.getElem_of_mem hy
    by_cases hjk : j < k
    · rcases h1 with h1 | h1
      · omega
      · rw [getD_at (by omega)] at h1
        by_cases e : j = k - 1
        · subst e; exact .inl h1
        · have := hu.ends (i := j) (j := k - 1) (by omega) (by omega)
          have := hu.some (L[k - 1]'(by omega)) (List.getElem_mem _)
          exact .inl (by omega)
    · rcases h2 with h2 | h2
      · omega
      · rw [getD_at (by omega)] at h2
        have := rises hu.rise (i := k) (j := j) (by omega) hj
        exact .inr (by omega)
  · intro h
    refine ⟨fun e => ?_, ?_, ?_⟩
    · by_cases hkl : k < L.length
      · rw [List.getElem?_eq_getElem hkl] at e
        have e' : L[k].1 = x.1 := by simpa using e
        have h3 := hu.some L[k] (List.getElem_mem hkl)
        rcases h L[k] (List.getElem_mem hkl) with h4 | h4 <;> omega
      · rw [List.getElem?_eq_none (by omega)] at e; simp at e
    · by_cases h0 : k = 0
      · exact .inl h0
      · right
        rw [getD_at (by omega)]
        have h3 := hp.lo (k - 1) (by omega) (by omega)
        rcases h (L[k - 1]'(by omega)) (List.getElem_mem _) with h4 | h4
        · exact h4
        · omega
    · by_cases h0 : k = L.length
      · exact .inl h0
      · right
        rw [getD_at (by omega)]
        have h3 := hp.hi k (by omega) (Nat.le_refl _)
        have h5 := hu.some (L[k]'(by omega)) (List.getElem_mem _)
        rcases h (L[k]'(by omega)) (List.getElem_mem _) with h4 | h4
        · omega
        · exact h4
theorem below_pd9 {B : Nat} {w w' : World} (h : Below w.drew.heap.size w.drew w') (hB : B ≤ w.heap.size) : Below B w w' := ((Below.refl _ _).drew).trans (h.mono hB)
set_option maxRecDepth 100000 in
set_option maxHeartbeats 8000000 in
theorem room_any (L : List (Int × Int)) (v : Value) (x : Int × Int) (w : World) (h : SlE w v L) (hn : L.length ≤ 100000) (hu : Used L) (hx : I64 x.1 ∧ I64 (x.1 + x.2)) :
    Calls Try.prog 29 #[v, .agg #[.int .i64 x.1, .int .i64 x.2]] w fun e w' => ∃ (k : Nat), e = .returned (.tuple #[.int .i64 (k : Int), .bool (roomB L x k)]) ∧ Hid (PlaceE L x.1 k) ∧ Hid (Below w.heap.size w w') := by
  obtain ⟨ao, c, rfl, hat⟩ := h.shape
  have HAt := Lib.hid hat; clear hat
  have HB := Lib.hid (Below.refl w.heap.size w)
  have HSl := Lib.hid h; clear h
  have HP := Lib.hid fun s W hW => placeE_any L (.slice ao L.length c) s W (HSl.out.below hW) hn hu.rise
  obtain ⟨n, hl⟩ : ∃ n, L.length = n := ⟨_, rfl⟩
  have HN := Lib.hid hl
  have HU := Lib.hid hu; clear hu
  rw [hl] at hn HP ⊢
  clear hl
  have HX := Lib.hid fun W => endOf_any x W hx.2
  obtain ⟨xs, xc⟩ := x
  dsimp only at hx HX ⊢
  have hbx : Hid (∀ W, Below (w.heap.size + 1) (w.alloc (.cells #[.int .i64 xs, .int .i64 xc] 52)) W → W.cell? ⟨w.heap.size, 0, none⟩ = some (.int .i64 xs) ∧ W.cell? ⟨w.heap.size, 1, none⟩ = some (.int .i64 xc)) := fun W hW => by
    have e := heap_alloc_new w (.cells #[.int .i64 xs, .int .i64 xc] 52)
    exact ⟨(hW.cell (p := ⟨w.heap.size, 0, none⟩) (by simp)).trans (Fr.cell_at e), (hW.cell (p := ⟨w.heap.size, 1, none⟩) (by simp)).trans (Fr.cell_at e)⟩
  go_enter Try.func29, Try.ntmps29
  go_wp2_with (go_at_call 46; refine (HP.out _ _ (HB.out.alloc (Nat.le_refl _) _)).mono ?_; rintro e w2 ⟨k, rfl, HPl, hb2⟩; have hb3 : Hid (Below (w.heap.size + 1) (w.alloc (.cells #[.int .i64 xs, .int .i64 xc] 52)) w2) := hb2.out.mono (by simp); clear hb2)
  clear HP
  have HB2 : Hid (Below w.heap.size w w2) := (HB.out.alloc (Nat.le_refl _) _).trans (hb3.out.mono (by omega))
  have HCell : Hid (∀ W, Below w2.heap.size w2 W → W.cell? ⟨w.heap.size, 0, none⟩ = some (.int .i64 xs) ∧ W.cell? ⟨w.heap.size, 1, none⟩ = some (.int .i64 xc)) := fun W hW => hbx.out W (hb3.out.trans (hW.mono (by have := hb3.out.size; simpa using this)))
  clear hbx hb3
  have hkn : k ≤ n := by have := HPl.out.le; have := HN.out; omega
  have HRb : Hid (∀ b1 b2 b3 : Bool, isAt L xs k = b1 → (decide (k = 0) || decide ((((L[k - 1]?).getD (0, 0)).1 + ((L[k - 1]?).getD (0, 0)).2) ≤ xs)) = b2 → (decide (k = L.length) || decide (xs + xc ≤ ((L[k]?).getD (0, 0)).1)) = b3 → roomB L (xs, xc) k = (!b1 && (b2 && b3))) := by
    intro b1 b2 b3 h1 h2 h3
    subst h1; subst h2; subst h3
    rfl
  generalize isAt L xs k = b1 at *
  generalize hq2 : (decide (k = 0) || decide ((((L[k - 1]?).getD (0, 0)).1 + ((L[k - 1]?).getD (0, 0)).2) ≤ xs)) = b2 at *
  generalize hq3 : (decide (k = L.length) || decide (xs + xc ≤ ((L[k]?).getD (0, 0)).1)) = b3 at *
  have HRR : Hid (roomB L (xs, xc) k = (!b1 && (b2 && b3))) := HRb.out b1 b2 b3 rfl rfl rfl
  clear HRb
  have hw2s := HB2.out.size
  by_cases hk0 : k = 0
  · subst hk0
    obtain rfl : b2 = true := by rw [← hq2]; rfl
    clear hq2
    go_wp2_with fail
    go_quiet (fail)
    have HBQ : Hid (Below w2.heap.size w2 (w2.drewN nq)) := below_drewN (Below.refl _ _) nq
    by_cases h3 : 0 = n
    · have z3 : ((0 : Int) == (n : Int)) = true := beq_iff_eq.2 (by omega)
      have z4 : (0 : Int) = (n : Int) := by omega
      obtain rfl : b3 = true := by rw [← hq3]; simp [HN.out, h3]
      clear hq3
      go_wp2_with fail
      go_quiet (fail)
      clear HCell
      cases b1 <;> (try cases b2)
      all_goals
        go_wp2_with fail
        go_ret2
        exact ⟨_, by rw [HRR.out]; rfl, HPl, below_drewN HB2.out _⟩
    · have z3 : ((0 : Int) == (n : Int)) = false := beq_eq_false_iff_ne.2 (by omega)
      have hkL : 0 < L.length := by rw [HN.out]; omega
      have hlz : (0 : Int) < (n : Int) := by omega
      have hlz2 : 0 < n := by omega
      have hlz3 : (0 : Int) ≤ (n : Int) := by omega
      have HL3 : Hid (∀ W, Below w2.heap.size w2 W → ∃ b off, ao = some ⟨b, off, none⟩ ∧ W.cell? ⟨b, off, none⟩ = some (.int .i64 L[0].1)) := fun W hW => by
        obtain ⟨b, off, e, h1, _⟩ := HAt.out W (HB2.out.trans (hW.mono hw2s)) _ hkL
        rw [Nat.zero_mul, Nat.add_zero] at h1
        exact ⟨b, off, e, h1⟩
      have hq3' : decide (xs + xc ≤ L[0].1) = b3 := by rw [← hq3, getD_at hkL]; simp [HN.out, h3]
      clear hq3
      generalize L[0] = y3 at *
      clear hkL
      obtain ⟨bb3, off3, hao3, x3⟩ := HL3.out _ HBQ.out
      obtain ⟨c0, c1⟩ := HCell.out _ HBQ.out
      have HL4 : Hid (∀ W, Below w2.heap.size w2 W → W.cell? ⟨bb3, off3, none⟩ = some (.int .i64 y3.1)) := fun W hW => by
        obtain ⟨b, off, e, h1⟩ := HL3.out W hW
        rw [hao3] at e
        obtain ⟨rfl, rfl⟩ : bb3 = b ∧ off3 = off := by simpa using e
        exact h1
      obtain ⟨y31, y32⟩ := y3
      dsimp only at hq3' HL4 x3
      subst hao3
      clear HL3
      go_wp2_with fail
      go_region_held3 (fun W : World => W.cell? ⟨w.heap.size, 0, none⟩ = some (.int .i64 xs) ∧ W.cell? ⟨w.heap.size, 1, none⟩ = some (.int .i64 xc) ∧ W.cell? ⟨bb3, off3, none⟩ = some (.int .i64 y31))
        (first | exact ⟨c0, c1, x3⟩ | assumption)
        (first
          | (go_at_call 48; refine (HX.out _).mono ?_; rintro e w4 ⟨rfl, hb4⟩; have HB4 : Hid (Below w2.heap.size w2 w4) := HBQ.out.trans (below_pd9 hb4 HBQ.out.size); have hs4 := And.intro (HCell.out _ HB4.out).1 (And.intro (HCell.out _ HB4.out).2 (HL4.out _ HB4.out))))
      all_goals
        have HBF : Hid (Below w.heap.size w w4) := HB2.out.trans (HB4.out.mono hw2s)
        clear HCell HL4
        cases b1 <;> (try cases b2) <;> (try cases b3)
        all_goals
          go_wp2_with fail
          go_ret2
          exact ⟨_, by rw [HRR.out]; rfl, HPl, HBF⟩
  · obtain ⟨km, rfl⟩ : ∃ km, k = km + 1 := ⟨k - 1, by omega⟩
    have z5 : (((km + 1 : Nat) : Int) == 0) = false := beq_eq_false_iff_ne.2 (by omega)
    have z5' : ((km : Int) + 1 == 0) = false := beq_eq_false_iff_ne.2 (by omega)
    have ww : IntKind.i64.wrap (km : Int) = (km : Int) := IntWalk.i64_in _ (by omega)
    have ww' : IntKind.i64.wrap ((km : Int) + 1 - 1) = (km : Int) := by rw [show (km : Int) + 1 - 1 = km by omega]; exact ww
    have hkm : km < L.length := by rw [HN.out]; omega
    have hkz : (km : Int) < (n : Int) := by omega
    have HL3 : Hid (∀ W, Below w2.heap.size w2 W → ∃ b off, ao = some ⟨b, off, none⟩ ∧ W.cell? ⟨b, off + km * 2, none⟩ = some (.int .i64 L[km].1) ∧ W.cell? ⟨b, off + km * 2 + 1, none⟩ = some (.int .i64 L[km].2)) := fun W hW => HAt.out W (HB2.out.trans (hW.mono hw2s)) _ hkm
    have hq2' : decide (L[km].1 + L[km].2 ≤ xs) = b2 := by rw [← hq2, show km + 1 - 1 = km by omega, getD_at hkm]; simp
    have HE2 := Lib.hid fun W => endOf_any L[km] W (HU.out.fit _ (List.getElem_mem hkm)).2
    clear hq2
    generalize L[km] = y2 at *
    clear hkm
    obtain ⟨bb2, off2, hao2, x2, x2'⟩ := HL3.out _ (Below.refl _ _)
    obtain ⟨c0, c1⟩ := HCell.out _ (Below.refl _ _)
    have HL4 : Hid (∀ W, Below w2.heap.size w2 W → W.cell? ⟨bb2, off2 + km * 2, none⟩ = some (.int .i64 y2.1) ∧ W.cell? ⟨bb2, off2 + km * 2 + 1, none⟩ = some (.int .i64 y2.2)) := fun W hW => by
      obtain ⟨b, off, e, h1⟩ := HL3.out W hW
      rw [hao2] at e
      obtain ⟨rfl, rfl⟩ : bb2 = b ∧ off2 = off := by simpa using e
      exact h1
    obtain ⟨y21, y22⟩ := y2
    dsimp only at hq2' HL4 x2 x2' HE2
    subst hao2
    clear HL3
    go_wp2_with fail
    go_region_held3 (fun W : World => W.cell? ⟨w.heap.size, 0, none⟩ = some (.int .i64 xs) ∧ W.cell? ⟨w.heap.size, 1, none⟩ = some (.int .i64 xc) ∧ W.cell? ⟨bb2, off2 + km * 2, none⟩ = some (.int .i64 y21) ∧ W.cell? ⟨bb2, off2 + km * 2 + 1, none⟩ = some (.int .i64 y22))
      (first | exact ⟨c0, c1, x2, x2'⟩ | assumption)
      (first
        | (go_at_call 48; refine (HE2.out _).mono ?_; rintro e w3 ⟨rfl, hb3⟩; have HB3 : Hid (Below w2.heap.size w2 w3) := below_pd9 hb3 (Nat.le_refl _); have hs3 := And.intro (HCell.out _ HB3.out).1 (And.intro (HCell.out _ HB3.out).2 (HL4.out _ HB3.out))))
    have HBG : Hid (Below w.heap.size w w3) := HB2.out.trans (HB3.out.mono hw2s)
    clear HL4 hs3 c0 c1 x2 x2'
    by_cases h3 : km + 1 = n
    · have z3 : ((km : Int) + 1 == (n : Int)) = true := beq_iff_eq.2 (by omega)
      have z4 : (km : Int) + 1 = (n : Int) := by omega
      obtain rfl : b3 = true := by rw [← hq3]; simp [HN.out, h3]
      clear hq3
      go_wp2_with fail
      go_quiet (fail)
      clear HCell
      cases b1 <;> (try cases b2)
      all_goals
        go_wp2_with fail
        go_ret2
        exact ⟨_, by rw [HRR.out]; rfl, HPl, below_drewN HBG.out _⟩
    · have z3 : ((km : Int) + 1 == (n : Int)) = false := beq_eq_false_iff_ne.2 (by omega)
      have hkL : km + 1 < L.length := by rw [HN.out]; omega
      have hlz : (km : Int) + 1 < (n : Int) := by omega
      have hlz2 : km + 1 < n := by omega
      have hlz3 : (0 : Int) ≤ (km : Int) + 1 := by omega
      have hlz4 : ((km : Int) + 1).toNat = km + 1 := by omega
      have hlz5 : (km : Int) + 1 ≤ (n : Int) := by omega
      have HL3 : Hid (∀ W, Below w2.heap.size w2 W → W.cell? ⟨bb2, off2 + (km + 1) * 2, none⟩ = some (.int .i64 L[km + 1].1)) := fun W hW => by
        obtain ⟨b, off, e, h1, _⟩ := HAt.out W (HB2.out.trans (hW.mono hw2s)) _ hkL
        obtain ⟨rfl, rfl⟩ : bb2 = b ∧ off2 = off := by simpa using e
        exact h1
      have hq3' : decide (xs + xc ≤ L[km + 1].1) = b3 := by rw [← hq3, getD_at hkL]; simp [HN.out, h3]
      clear hq3
      generalize L[km + 1] = y3 at *
      clear hkL
      have x3 := HL3.out _ HB3.out
      obtain ⟨d0, d1⟩ := HCell.out _ HB3.out
      have HL4 := HL3
      obtain ⟨y31, y32⟩ := y3
      dsimp only at hq3' HL4 x3
      
      clear HL3
      go_wp2_with fail
      go_region_held3 (fun W : World => W.cell? ⟨w.heap.size, 0, none⟩ = some (.int .i64 xs) ∧ W.cell? ⟨w.heap.size, 1, none⟩ = some (.int .i64 xc) ∧ W.cell? ⟨bb2, off2 + (km + 1) * 2, none⟩ = some (.int .i64 y31))
        (first | exact ⟨d0, d1, x3⟩ | assumption)
        (first
          | (go_at_call 48; refine (HX.out _).mono ?_; rintro e w4 ⟨rfl, hb4⟩; have HB4 : Hid (Below w2.heap.size w2 w4) := HB3.out.trans (below_pd9 hb4 HB3.out.size); have hs4 := And.intro (HCell.out _ HB4.out).1 (And.intro (HCell.out _ HB4.out).2 (HL4.out _ HB4.out))))
      all_goals
        have HBF : Hid (Below w.heap.size w w4) := HB2.out.trans (HB4.out.mono hw2s)
        clear HCell HL4
        cases b1 <;> (try cases b2) <;> (try cases b3)
        all_goals
          go_wp2_with fail
          go_ret2
          exact ⟨_, by rw [HRR.out]; rfl, HPl, HBF⟩
end Go.Proofs.Ytfmnbabkdpiboaa
