/- InodeBounds' walk. -/
import Derived.Test.YtfmnbabkdpiboaaZIUnp
import Derived.Test.YtfmnbabkdpiboaaZIOpen

namespace Go.Proofs.Ytfmnbabkdpiboaa
open Go.RowKit
open Fr (bs str_len below_drewN)

theorem RightP.wide {L : List Fl} {a b : Int} (h : RightP L a b) (ha : 0 ≤ a) (hb : b ≤ 4096) : RightP L 0 4096 :=
  ⟨h.1, h.2.names, h.2.rise, h.2.filled, fun x hx => by have h1 := h.2.among x hx; exact ⟨by have := h1.lo; omega, by have := h1.hi; omega, by have := h1.fit; omega⟩, h.2.apart⟩
theorem bounds_math {L : List Fl} {a b : Int} (h : RightP L a b) (ha : 0 ≤ a) (hb : b ≤ 4096) {i j : Nat} (hi : i < L.length) (hj : j < (L[i]).ext.length) :
    a ≤ (L[i]).ext[j].1 ∧ (L[i]).ext[j].1 + (L[i]).ext[j].2 ≤ b ∧ 1 ≤ (L[i]).ext[j].2 ∧ rtB L ((L[i]).ext[j].1 + 1) b = false ∧ rtB L a ((L[i]).ext[j].1 + (L[i]).ext[j].2 - 1) = false := by
  have h1 := h.2.among_at hi hj
  have hm : (L[i]).ext[j] ∈ allE L := List.mem_flatMap.2 ⟨L[i], List.getElem_mem hi, List.getElem_mem hj⟩
  have h2 := (h.2.filled L[i] (List.getElem_mem hi)).some _ (List.getElem_mem hj)
  refine ⟨h1.lo, by have := h1.fit; omega, h2, bool_false (rtB_iff _ _ _) (fun h3 => ?_), bool_false (rtB_iff _ _ _) (fun h3 => ?_)⟩
  · have := (h3.2.among _ hm).lo; omega
  · have := (h3.2.among _ hm).fit; omega
set_option maxRecDepth 100000 in
set_option maxHeartbeats 8000000 in
theorem bounds_any (v : Value) (a b : Int) (L : List Fl) (w : World) (hL : FilesA w v L) (ha : I64 a) (hb : I64 b) : Calls Try.prog 8 #[v, .int .i64 a, .int .i64 b] w fun e w' => e = .returned (.bool true) ∧ Below w.heap.size w w' := by
  obtain ⟨hsl, hn, hN⟩ := hL
  have hn' : L.length ≤ 9223372036854775807 := by unfold maxLen at hn; omega
  have HSl := Lib.hid hsl
  obtain ⟨ao, c, hv, hat⟩ := hsl.shape
  subst hv
  have HAt := Lib.hid hat; clear hat hsl
  have CS := Lib.hid fun W => shown8_any W
  have CA := Lib.hid fun W (hW : Below w.heap.size w W) => as_any L (.slice ao L.length c) W (HSl.out.below hW) hn'
  have CR : Hid (∀ W x y, Below w.heap.size w W → I64 x → I64 y → Calls Try.prog 14 #[.slice ao L.length c, .int .i64 x, .int .i64 y] W fun e w' => e = .returned (.bool (rtB L x y)) ∧ Below W.heap.size W w') := fun W x y hW hx hy => right_any L _ x y W (HSl.out.below hW) hN hn' hx hy
  have HNu : Hid (Nums64 L) := hN
  clear hn hN
  obtain ⟨n, hl⟩ : ∃ n, L.length = n := ⟨_, rfl⟩
  have HN := Lib.hid hl
  rw [hl] at CA CR hn' ⊢
  clear hl
  go_enter Try.func8, Try.ntmps8
  go_wp2_with fail
  refine (CS.out _).mono ?_
  rintro e w1 ⟨rfl, hb1⟩
  have HB1 := Lib.hid hb1; clear hb1
  go_wp2_with fail
  refine (CA.out _ HB1.out).mono ?_
  rintro e w2 ⟨v2, rfl, _, hb2⟩
  have HB2 : Hid (Below w.heap.size w w2) := HB1.out.trans (hb2.out.mono HB1.out.size)
  clear hb2 HB1 CA CS
  cases hok : asB L
  · go_wp2_with fail
    go_ret
    exact ⟨rfl, HB2.out⟩
  by_cases a0 : a < 0
  · go_wp2_with fail
    go_ret
    exact ⟨rfl, HB2.out⟩
  by_cases b0 : 4096 < b
  · go_wp2_with fail
    go_ret
    exact ⟨rfl, HB2.out⟩
  by_cases a1 : 4096 < a
  · go_wp2_with fail
    go_ret
    exact ⟨rfl, HB2.out⟩
  by_cases b1 : b < 0
  · go_wp2_with fail
    go_ret
    exact ⟨rfl, HB2.out⟩
  go_wp2_with fail
  refine (CR.out _ _ _ HB2.out ha hb).mono ?_
  rintro e w3 ⟨rfl, hb3⟩
  have HB3 : Hid (Below w.heap.size w w3) := HB2.out.trans (hb3.mono HB2.out.size)
  clear hb3 HB2
  cases hr : rtB L a b
  · go_wp2_with fail
    go_ret
    exact ⟨rfl, HB3.out⟩
  have hR := (rtB_iff _ _ _).1 hr
  have HW := Lib.hid ((rtB_iff _ _ _).2 (hR.wide (by omega) (by omega)))
  have HM : Hid (∀ i j (hi : i < L.length) (hj : j < (L[i]).ext.length), _) := fun i j hi hj => bounds_math hR (by omega) (by omega) hi hj
  have HFew : Hid (∀ i (hi : i < L.length), (L[i]).ext.length ≤ 16) := fun i hi => (hR.2.filled L[i] (List.getElem_mem hi)).few
  clear hR hr hok
  go_wp2_with fail
  refine (CR.out _ _ _ HB3.out (by unfold I64; omega) (by unfold I64; omega)).mono ?_
  rintro e w4 ⟨rfl, hb4⟩
  rw [HW.out]
  have HB4 : Hid (Below w.heap.size w w4) := HB3.out.trans (hb4.mono HB3.out.size)
  clear hb4 HB3 HW
  go_wp2_with fail
  go_loopw [12] (fun iv wr => ∃ i : Nat, i ≤ n ∧ iv = .int .i64 (i : Int) ∧ Hid (Below w.heap.size w wr)) (fun iv _ => n - (intOf iv).toNat)
  case atStart => exact ⟨0, Nat.zero_le _, rfl, HB4⟩
  case round =>
    obtain ⟨i, hi, rfl, HBr⟩ := hrel
    clear HB4
    have hbr := HBr.out.size
    by_cases hlt : i < n
    · have hiz : (i : Int) < (n : Int) := by omega
      have hiL : i < L.length := by rw [HN.out]; exact hlt
      have HMi : Hid (∀ j (hj : j < (L[i]).ext.length), _) := fun j hj => HM.out i j hiL hj
      have HFt : Hid (∃ b off eo ec, ao = some ⟨b, off, none⟩ ∧ ∀ W, Below w.heap.size w W → W.cell? ⟨b, off + i * 4 + 3, none⟩ = some (.slice eo (L[i]).ext.length ec) ∧ ∀ j (hj : j < (L[i]).ext.length), ∃ be oe, eo = some ⟨be, oe, none⟩ ∧ W.cell? ⟨be, oe + j * 2, none⟩ = some (.int .i64 ((L[i]).ext[j]).1) ∧ W.cell? ⟨be, oe + j * 2 + 1, none⟩ = some (.int .i64 ((L[i]).ext[j]).2)) := by
        obtain ⟨b', off', ve', e', hF', hS'⟩ := HAt.out w (Below.refl _ _) i hiL
        obtain ⟨eo, ec, hve, hae⟩ := hS'.shape
        subst hve
        refine ⟨b', off', eo, ec, e', fun W hW => ⟨?_, fun j hj => hae W hW j hj⟩⟩
        obtain ⟨b2, off2, ve2, e2, hF2, _⟩ := HAt.out W hW i hiL
        rw [e'] at e2
        obtain ⟨rfl, rfl⟩ : b' = b2 ∧ off' = off2 := by simpa using e2
        have hb := hF'.c3
        exact (hW.cell (p := ⟨b', off' + i * 4 + 3, none⟩) (World.block_lt_of_cell? w _ hb)).trans hb
      have HI64 : Hid (∀ j (hj : j < (L[i]).ext.length), I64 ((L[i]).ext[j]).1 ∧ I64 ((L[i]).ext[j]).2) := fun j hj => (HNu.out L[i] (List.getElem_mem hiL)).2.2 _ (List.getElem_mem hj)
      have hfew := HFew.out i hiL
      generalize (L[i]).ext = E at *
      clear hiL
      obtain ⟨bb, off, eo, ec, rfl, hft⟩ := HFt.out
      have HFt := Lib.hid hft; clear hft
      obtain ⟨m, hm⟩ : ∃ m, E.length = m := ⟨_, rfl⟩
      have HMm := Lib.hid hm
      have HFc : Hid (∀ W, Below w.heap.size w W → W.cell? ⟨bb, off + i * 4 + 3, none⟩ = some (.slice eo m ec)) := fun W hW => by rw [← hm]; exact (HFt.out W hW).1
      rw [hm] at hfew
      clear hm
      go_wp2_with fail
      go_loopw [13] (fun jv wr => ∃ j : Nat, j ≤ m ∧ jv = .int .i64 (j : Int) ∧ Hid (Below w.heap.size w wr)) (fun jv _ => m - (intOf jv).toNat)
      case atStart => exact ⟨0, Nat.zero_le _, rfl, HBr⟩
      case round =>
        obtain ⟨j, hj, rfl, HBq⟩ := hrel
        clear HBr hbr
        have hbq := HBq.out.size
        have x3 := HFc.out _ HBq.out
        by_cases hjt : j < m
        · have hjz : (j : Int) < (m : Int) := by omega
          have hjE : j < E.length := by rw [HMm.out]; exact hjt
          obtain ⟨be, oe, rfl, y0, y1⟩ := (HFt.out _ HBq.out).2 j hjE
          obtain ⟨q1, q2, q3, q4, q5⟩ := HMi.out j hjE
          have HQ4 := Lib.hid q4; have HQ5 := Lib.hid q5
          obtain ⟨k1, k2⟩ := HI64.out j hjE
          clear q4 q5
          generalize E[j] = x at *
          clear hjE
          obtain ⟨xs, xc⟩ := x
          dsimp only at y0 y1 q1 q2 q3 HQ4 HQ5 k1 k2
          unfold I64 at k1 k2 ha hb
          have hbx2 : Hid (∀ W, Below (wr.heap.size + 1) (wr.alloc (.cells #[.int .i64 xs, .int .i64 xc] 52)) W → W.cell? ⟨wr.heap.size, 0, none⟩ = some (.int .i64 xs) ∧ W.cell? ⟨wr.heap.size, 1, none⟩ = some (.int .i64 xc)) := fun W hW => by
            have e := heap_alloc_new wr (.cells #[.int .i64 xs, .int .i64 xc] 52)
            exact ⟨(hW.cell (p := ⟨wr.heap.size, 0, none⟩) (by simp)).trans (cell_at e 0), (hW.cell (p := ⟨wr.heap.size, 1, none⟩) (by simp)).trans (cell_at e 1)⟩
          have HBa : Hid (Below w.heap.size w (wr.alloc (.cells #[.int .i64 xs, .int .i64 xc] 52))) := HBq.out.alloc hbq _
          obtain ⟨g0, g1⟩ := hbx2.out _ (Below.refl _ _)
          have n1 : ¬ xs < a := by omega
          have n2 : ¬ b < xs + xc := by omega
          have n3 : ¬ xc < 1 := by omega
          go_wp2_with fail
          refine (CR.out _ _ _ HBa.out (by unfold I64; omega) (by unfold I64; omega)).mono ?_
          rintro e w5 ⟨rfl, hb5⟩
          rw [HQ4.out]
          have HB5 : Hid (Below (wr.heap.size + 1) (wr.alloc (.cells #[.int .i64 xs, .int .i64 xc] 52)) w5) := hb5.mono (by simp)
          have HBw5 : Hid (Below w.heap.size w w5) := HBa.out.trans (hb5.mono HBa.out.size)
          clear hb5 g0 g1
          obtain ⟨g0, g1⟩ := hbx2.out _ HB5.out
          go_wp2_with fail
          refine (CR.out _ _ _ HBw5.out (by unfold I64; omega) (by unfold I64; omega)).mono ?_
          rintro e w6 ⟨rfl, hb6⟩
          rw [HQ5.out]
          have HBw6 : Hid (Below w.heap.size w w6) := HBw5.out.trans (hb6.mono HBw5.out.size)
          clear hb6 g0 g1 hbx2 HB5 HBw5 HBa
          go_wp2_with fail
          go_roundw
          case rel => exact ⟨j + 1, by omega, by go_num, HBw6⟩
          case measure => simp [intOf]; omega
        · obtain rfl : j = m := by omega
          have hjz : ¬ (j : Int) < (j : Int) := by omega
          go_wp2_with fail
          go_roundw
          case rel => exact ⟨i + 1, by omega, by go_num, HBq⟩
          case measure => simp [intOf]; omega
    · obtain rfl : i = n := by omega
      have hiz : ¬ (i : Int) < (i : Int) := by omega
      go_wp2_with fail
      go_ret
      exact ⟨rfl, HBr.out⟩
end Go.Proofs.Ytfmnbabkdpiboaa
