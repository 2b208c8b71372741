/- The chapter's examples: shown answers true. -/
import Derived.Test.YtkailodeojbnhaaFWhole
import Derived.Test.YtkailodeojbnhaaFUnp
import Derived.Deep.RegionHeld3
namespace Go.Proofs.Ytkailodeojbnhaa
open Go.RowKit

def tA : ByteArray := textOf fun _ => 97
def tB : ByteArray := textOf fun _ => 98
theorem tA_size : tA.size = 256 := textOf_size _
theorem tB_size : tB.size = 256 := textOf_size _
def w1L : List (Int × ByteArray) := [(7, tA)]
theorem w1_ok : ∀ x ∈ w1L, WrOk x := by
  intro x hx
  simp only [w1L, List.mem_singleton] at hx
  subst hx
  exact ⟨by omega, by omega, tA_size⟩
def tTop : ByteArray := bs (topL 1 w1L)
theorem tTop_size : tTop.size = 256 := by unfold tTop; rw [bs_len]; exact topL_len 1 w1L (by decide)
theorem pk_one : pk 1 w1L = ([tTop, tA], 0) := by
  unfold pk
  rw [if_pos ((chk_ok w1L).2 ⟨by decide, by decide, w1_ok⟩)]; rfl
theorem pk_none : pk 1 [] = ([], 6) := rfl
theorem hd_one : hd tTop = (1, 1, true) := hd_pack 1 w1L (by omega) (by decide) (by decide) w1_ok
theorem unp_one : unp [tTop, tA] = (1, w1L, 0) := unp_pack 1 w1L [] (by omega) (by decide) (by decide) w1_ok
theorem unp_alone : unp [tTop] = (0, [], 7) := unp_short 1 w1L 1 (by omega) (by decide) (by decide) w1_ok (by decide)
set_option maxRecDepth 100000 in
theorem sums_differ : (crcL (headL 1 w1L ++ joinB [tA]) == crcL (headL 1 w1L ++ joinB [tB])) = false := by decide +kernel
theorem unp_other : unp [tTop, tB] = (0, [], 8) := by
  obtain ⟨h1, h2, h3, h4, h5, h6⟩ := top_parts 1 w1L (by omega) (by decide) (by decide) w1_ok
  have h2' : nmAt (topL 1 w1L) 12 = 1 := h2
  rw [unp_cons, if_pos, if_neg]
  · unfold sumB tTop
    rw [data_bs, h2', h5, h6]
    show ¬ (crcL (headL 1 w1L ++ joinB [tA]) == crcL (headL 1 w1L ++ joinB [tB])) = true
    rw [sums_differ]; decide
  · rw [formB_iff]
    unfold tTop
    rw [data_bs, h2']
    refine ⟨h1, Nat.le_refl _, fun d hd => ?_⟩
    simp only [List.take_succ_cons, List.take_zero, List.mem_singleton] at hd
    rw [hd]; exact tB_size

theorem slW_lit (w : World) (i : Int) (s : ByteArray) : SlW (w.alloc (.cells #[.int .i64 i, .string s] 45)) (.slice (some ⟨w.heap.size, 0, none⟩) 1 1) [(i, s)] := by
  refine ⟨_, 1, rfl, Nat.le_refl _, .inr ⟨w.heap.size, 0, rfl, by simp, fun j hj => ?_⟩⟩
  obtain rfl : j = 0 := by simp at hj; omega
  exact ⟨by rw [cell_at (heap_alloc_new ..)]; rfl, by rw [cell_at (heap_alloc_new ..)]; rfl⟩
theorem slS_lit2 (w : World) (s t : ByteArray) : SlS (w.alloc (.cells #[.string s, .string t] 9)) (.slice (some ⟨w.heap.size, 0, none⟩) 2 2) [s, t] := by
  refine ⟨_, 2, rfl, Nat.le_refl _, .inr ⟨w.heap.size, 0, rfl, by simp, fun j hj => ?_⟩⟩
  rw [cell_at (heap_alloc_new ..)]
  match j, hj with
  | 0, _ => rfl
  | 1, _ => rfl
theorem slW_nil (w : World) : SlW w (.slice none 0 0) [] := ⟨none, 0, rfl, Nat.le_refl _, .inl rfl⟩

theorem held_two {w W W' : World} {g : Nat} {T A : ByteArray} (hg : g < w.heap.size) (h : Below w.heap.size w W ∧ W.cell? ⟨g, 0, none⟩ = some (.string T) ∧ W.cell? ⟨g, 1, none⟩ = some (.string A)) (hb : Below W.heap.size W W') :
    Below w.heap.size w W' ∧ W'.cell? ⟨g, 0, none⟩ = some (.string T) ∧ W'.cell? ⟨g, 1, none⟩ = some (.string A) := by
  have hl : g < W.heap.size := Nat.lt_of_lt_of_le hg h.1.size
  exact ⟨h.1.trans (hb.mono h.1.size), (hb.cell (p := ⟨g, 0, none⟩) hl).trans h.2.1, (hb.cell (p := ⟨g, 1, none⟩) hl).trans h.2.2⟩

set_option maxRecDepth 100000 in
set_option maxHeartbeats 4000000 in
theorem shown_any (w : World) : Calls Try.prog 9 #[] w fun e w' => e = .returned (.bool true) ∧ Below w.heap.size w w' := by
  have hm : ∀ n : Nat, n ≤ 1000 → n ≤ maxLen := fun n hn => by unfold maxLen; omega
  have zA := tA_size
  have zB := tB_size
  have zT := tTop_size
  have CF : Hid (∀ W, Calls Try.prog 21 #[.int .u8 97] W fun e w' => e = .returned (.string tA) ∧ Below W.heap.size W w') := fun W => full_any 97 W
  have CG : Hid (∀ W, Calls Try.prog 21 #[.int .u8 98] W fun e w' => e = .returned (.string tB) ∧ Below W.heap.size W w') := fun W => full_any 98 W
  have CP : Hid (∀ W v, SlW W v w1L → Calls Try.prog 11 #[.int .u64 1, v] W fun e w' => ∃ u, e = .returned (.tuple #[u, .int .i64 0]) ∧ OwnS W.heap.size w' u [tTop, tA] ∧ Below W.heap.size W w') := fun W v h => by
    have := pack_any 1 w1L v W (by omega) (by decide) (fun x hx => hm _ (by rw [(w1_ok x hx).2.2]; omega)) h
    rw [pk_one] at this; exact this
  have CN : Hid (∀ W, Calls Try.prog 11 #[.int .u64 1, .slice none 0 0] W fun e w' => ∃ u, e = .returned (.tuple #[u, .int .i64 6]) ∧ Below W.heap.size W w') := fun W => by
    have := pack_any 1 [] _ W (by omega) (by decide) (fun x hx => by cases hx) (slW_nil W)
    rw [pk_none] at this
    exact this.mono fun e w' ⟨u, he, _, hb⟩ => ⟨u, he, hb⟩
  have CH : Hid (∀ W, Calls Try.prog 18 #[.string tTop] W fun e w' => e = .returned (.tuple #[.int .u64 1, .int .i64 1, .bool true]) ∧ Below W.heap.size W w') := fun W => by
    have := head_any tTop W
    rw [hd_one] at this; exact this
  have CU : Hid (∀ W v, SlS W v [tTop, tA] → Calls Try.prog 17 #[v] W fun e w' => ∃ u, e = .returned (.tuple #[.int .u64 1, u, .int .i64 0]) ∧ OwnW W.heap.size w' u w1L ∧ Below W.heap.size W w') := fun W v h => by
    have := unpack_any [tTop, tA] v W (by decide) (fun d hd => by simp at hd; rcases hd with rfl | rfl <;> exact hm _ (by omega)) h
    rw [unp_one] at this; exact this
  have CV : Hid (∀ W v, SlS W v [tTop] → Calls Try.prog 17 #[v] W fun e w' => ∃ u, e = .returned (.tuple #[.int .u64 0, u, .int .i64 7]) ∧ Below W.heap.size W w') := fun W v h => by
    have := unpack_any [tTop] v W (by decide) (fun d hd => by simp at hd; subst hd; exact hm _ (by omega)) h
    rw [unp_alone] at this
    exact this.mono fun e w' ⟨u, he, _, hb⟩ => ⟨u, he, hb⟩
  have CX : Hid (∀ W v, SlS W v [tTop, tB] → Calls Try.prog 17 #[v] W fun e w' => ∃ u, e = .returned (.tuple #[.int .u64 0, u, .int .i64 8]) ∧ Below W.heap.size W w') := fun W v h => by
    have := unpack_any [tTop, tB] v W (by decide) (fun d hd => by simp at hd; rcases hd with rfl | rfl <;> exact hm _ (by omega)) h
    rw [unp_other] at this
    exact this.mono fun e w' ⟨u, he, _, hb⟩ => ⟨u, he, hb⟩
  have HW1 : Hid (w1L = [(7, tA)]) := rfl
  have HM := Lib.hid hm; clear hm
  generalize tTop = T at *
  generalize tA = A at *
  generalize tB = B at *
  generalize w1L = L1 at *
  go_enter Try.func9, Try.ntmps9
  go_wp2_with fail
  refine (CF.out _).mono ?_
  rintro e w1 ⟨rfl, hb1⟩
  have HB1 := Lib.hid hb1; clear hb1
  have hw1 := slW_lit w1 7 A
  rw [← HW1.out] at hw1
  have HL := Lib.hid hw1; clear hw1
  have HB2 : Hid (Below w.heap.size w (w1.alloc (.cells #[.int .i64 7, .string A] 45))) := HB1.out.alloc HB1.out.size _
  clear HB1
  go_wp2_with fail
  generalize w1.alloc (.cells #[.int .i64 7, .string A] 45) = w2 at *
  generalize (.slice (some ⟨w1.heap.size, 0, none⟩) 1 1 : Value) = lv at *
  refine (CP.out _ _ HL.out).mono ?_
  rintro e w3 ⟨u, rfl, ho3, hb3⟩
  have HB3 := Lib.hid (HB2.out.trans (hb3.mono HB2.out.size))
  have HL3 := Lib.hid (HL.out.below hb3)
  obtain ⟨g, c, rfl, hc, hg0, hg, hst, _⟩ := ho3.here (by simp)
  have HS3 := Lib.hid ho3.sl
  have c0 := hst 0 (by simp)
  have c1 := hst 1 (by simp)
  simp only [List.getElem_cons_zero, List.getElem_cons_succ, Nat.zero_add, List.length_cons, List.length_nil] at c0 c1 hc HS3 ⊢
  clear ho3 hb3 hst hg0 HB2 HL CP
  have hne : (!(A.toList == A.toList)) = false := by simp
  have hzT : ((T.size : Int) != 256) = false := by simp; omega
  go_wp2_with fail
  go_region_held3 (fun W => Below w3.heap.size w3 W ∧ W.cell? ⟨g, 0, none⟩ = some (.string T) ∧ W.cell? ⟨g, 1, none⟩ = some (.string A))
    (first | exact ⟨(Below.refl _ _).drew, c0, c1⟩ | exact held_two hg (by assumption) (by assumption))
    (first | (go_at_call 21; refine (CF.out _).mono ?_; rintro e w' ⟨rfl, hbx⟩))
  rename_i hHeld
  clear hbx
  obtain ⟨hh, c0', c1'⟩ := hHeld
  have hsz := HB3.out.size
  have HB4 := Lib.hid (HB3.out.trans (hh.mono hsz))
  have HS4 := Lib.hid (HS3.out.below hh)
  have HL4 := Lib.hid (HL3.out.below hh)
  have hg4 : g < w'.heap.size := Nat.lt_of_lt_of_le hg hh.size
  clear hh HB3 HS3 HL3 c0 c1 hsz hne hzT hg
  go_wp2_with fail
  refine (CH.out _).mono ?_
  rintro e w5 ⟨rfl, hb5⟩
  have HB5 := Lib.hid (HB4.out.trans (hb5.mono HB4.out.size))
  have HS5 := Lib.hid (HS4.out.below hb5)
  have HL5 := Lib.hid (HL4.out.below hb5)
  have c05 := (hb5.cell (p := ⟨g, 0, none⟩) hg4).trans c0'
  have hg5 : g < w5.heap.size := Nat.lt_of_lt_of_le hg4 hb5.size
  clear hb5 HB4 HS4 HL4 c0' c1' hg4 CH
  go_wp2_with fail
  refine (CU.out _ _ HS5.out).mono ?_
  rintro e w6 ⟨u, rfl, ho6, hb6⟩
  have HB6 := Lib.hid (HB5.out.trans (hb6.mono HB5.out.size))
  have HS6 := Lib.hid (HS5.out.below hb6)
  have HL6 := Lib.hid (HL5.out.below hb6)
  have HU6 := Lib.hid ho6.sl
  have c06 := (hb6.cell (p := ⟨g, 0, none⟩) hg5).trans c05
  have hg6 : g < w6.heap.size := Nat.lt_of_lt_of_le hg5 hb6.size
  clear hb6 HB5 HS5 HL5 c05 hg5 CU ho6
  have HS1 : Hid (SlS w6 (.slice (some ⟨g, 0, none⟩) 1 c) [T]) := ⟨_, c, rfl, by simp; omega, .inr ⟨g, 0, rfl, hg6, fun j hj => by
    obtain rfl : j = 0 := by simp at hj; omega
    exact c06⟩⟩
  have hc1 : (1 : Int) ≤ (c : Int) := by omega
  go_wp2_with fail
  refine (CV.out _ _ HS1.out).mono ?_
  rintro e w7 ⟨u7, rfl, hb7⟩
  have HB7 := Lib.hid (HB6.out.trans (hb7.mono HB6.out.size))
  have HL7 := Lib.hid (HL6.out.below hb7)
  have HU7 := Lib.hid (HU6.out.below hb7)
  have c07 := (hb7.cell (p := ⟨g, 0, none⟩) hg6).trans c06
  have hg7 : g < w7.heap.size := Nat.lt_of_lt_of_le hg6 hb7.size
  clear hb7 HB6 HL6 HU6 HS6 c06 hg6 CV HS1
  go_wp2_with fail
  go_region_with (first
    | (go_at_call 21; refine (CG.out _).mono ?_; rintro e w8 ⟨rfl, hb8⟩; have HB8 := Lib.hid (below_predrew hb8); have c08 := (HB8.out.cell (p := ⟨g, 0, none⟩) hg7).trans c07; clear hb8)
    | (go_at_call 17; refine (CX.out _ _ (slS_lit2 _ _ _)).mono ?_; rintro e w9 ⟨u9, rfl, hb9⟩; have HB9 := Lib.hid (HB8.out.trans ((pre_alloc hb9).mono HB8.out.size)); clear hb9))
  all_goals
    have HB10 := Lib.hid (HB7.out.trans (HB9.out.mono HB7.out.size))
    have HL10 := Lib.hid (HL7.out.below HB9.out)
    have HU10 := Lib.hid (HU7.out.below HB9.out)
    clear HB9 HB8 c08
    go_wp2_with fail
    refine (CN.out _).mono ?_
    rintro e w11 ⟨u11, rfl, hb11⟩
    have HB11 := Lib.hid (HB10.out.trans (hb11.mono HB10.out.size))
    have HL11 := Lib.hid (HL10.out.below hb11)
    have HU11 := Lib.hid (HU10.out.below hb11)
    clear hb11 HB10 HL10 HU10
    go_wp2_with fail
    refine (sameW_any L1 _ _ _ (by rw [HW1.out]; exact HM.out _ (by simp)) HU11.out HL11.out).mono ?_
    rintro e w12 ⟨rfl, hb12⟩
    have HB12 := Lib.hid (HB11.out.trans (hb12.mono HB11.out.size))
    clear hb12 HB11
    go_wp2
    go_ret
    exact ⟨rfl, HB12.out⟩
end Go.Proofs.Ytkailodeojbnhaa
