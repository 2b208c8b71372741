/- The document's cache: what Dirty answers. -/
import Derived.Test.YteeoglfgilabaaaZQPut
import Derived.Test.YteeoglfgilabaaaZCTwo

namespace Go.Proofs.Yteeoglfgilabaaa
open Go.RowKit

theorem ins_at (M : List Wr) (x : Wr) (i : Nat) (hi : i ≤ M.length) (h1 : ∀ j (hj : j < M.length), j < i → M[j].1 < x.1) (h2 : ∀ (h : i < M.length), ¬ M[i].1 < x.1) : ins x M = M.take i ++ x :: M.drop i := by
  induction M generalizing i with
  | nil => cases i <;> rfl
  | cons y r ih =>
    unfold ins
    cases i with
    | zero => rw [if_neg (show ¬ y.1 < x.1 from h2 (by simp))]; rfl
    | succ j =>
      rw [if_pos (show y.1 < x.1 from h1 0 (by simp) (by omega)), ih j (by simpa using hi) (fun t ht htj => h1 (t + 1) (by simpa using ht) (by omega)) (fun h => h2 (by simpa using h))]
      rfl
/-- What is dirty of the first k. -/
def dd (L : List Kp) (k : Nat) : List Wr := (dls (L.take k)).foldl (fun o x => ins x o) []
theorem dd_succ (L : List Kp) (k : Nat) (hk : k < L.length) : dd L (k + 1) = if L[k].dirty then ins (L[k].key, L[k].data) (dd L k) else dd L k := by
  unfold dd dls
  rw [List.take_succ_eq_append_getElem hk, List.filter_append, List.map_append, List.foldl_append]
  cases h : L[k].dirty <;> simp [h]
theorem ins_len (x : Wr) (M : List Wr) : (ins x M).length = M.length + 1 := by rw [(ins_perm x M).length_eq]; rfl
theorem dd_all (C : CS) : dd C.L C.L.length = C.dirty := by unfold dd CS.dirty; rw [List.take_length]
section
variable {w : World} {p : Nat} {v : Value} {C : CS}
set_option maxRecDepth 100000 in
set_option maxHeartbeats 40000000 in
theorem qdirty_any (h : RQ w p v C) (ok : C.Ok) : Calls Try.prog 18 #[.pointer (some ⟨p, 0, none⟩)] w fun e w' => ∃ u, e = .returned u ∧ Hid (SlW w' u C.dirty) ∧ Hid (Below w.heap.size w w') := by
  obtain ⟨i0, hi, hz0, hz1, hz2⟩ := info_parts Try.infoW
  have HZ2 := Lib.hid hz2
  clear hz2
  have hms := ok_short ok
  obtain ⟨a2, c2, hv⟩ := own_shape (R3.hr h)
  subst hv
  obtain ⟨n, hn⟩ : ∃ n, C.L.length = n := ⟨_, rfl⟩
  have HN := Lib.hid hn
  have HC0 : Hid (∀ W, Below w.heap.size w W → W.cell? ⟨p, 0, none⟩ = some (.slice a2 C.L.length c2)) := fun W hW => (R3.below h hW).c0
  have HAt : Hid (∀ W, Below w.heap.size w W → ∀ k (hk : k < C.L.length), ∃ g, a2 = some ⟨g, 0, none⟩ ∧ W.cell? ⟨g, k * 4, none⟩ = some (.int .i64 C.L[k].key) ∧ W.cell? ⟨g, k * 4 + 1, none⟩ = some (.string C.L[k].data) ∧ W.cell? ⟨g, k * 4 + 2, none⟩ = some (.bool C.L[k].dirty)) := fun W hW k hk => by
    obtain ⟨g, e1, e2, e3, e4, _⟩ := R3.at (R3.below h hW) hk
    exact ⟨g, e1, e2, e3, e4⟩
  have HDA := Lib.hid (dd_all C)
  rw [hn] at hms HC0
  clear h ok hn
  go_enter Try.func18, Try.ntmps18
  go_wp2_with fail
  go_loopw [3, 4, 5] (fun ov kv _ wr => ∃ (k : Nat) (M : List Wr), k ≤ n ∧ kv = .int .i64 (k : Int) ∧ Hid (M = dd C.L k) ∧ M.length ≤ k ∧ Hid (OwnW w.heap.size wr ov M) ∧ Hid (Below w.heap.size w wr)) (fun _ kv _ _ => n - (intOf kv).toNat)
  case atStart => exact ⟨0, [], Nat.zero_le _, rfl, rfl, Nat.le_refl _, OwnW.nil _ _, (show Below _ _ _ from Below.refl _ _)⟩
  case round =>
    obtain ⟨k, M, hk, rfl, HM, hml, HO, HB⟩ := hrel
    have c0 := HC0.out _ HB.out
    have hbr := HB.out.size
    obtain ⟨ao, co, hov⟩ := own_shape HO.out
    subst hov
    by_cases hlt : k < n
    · have hkL : k < C.L.length := by rw [HN.out]; exact hlt
      have hkz : (k : Int) < (n : Int) := by omega
      obtain ⟨gr, rfl, x0, x1, x2⟩ := HAt.out _ HB.out k hkL
      have HAk : Hid (∀ W, Below w.heap.size w W → W.cell? ⟨gr, k * 4, none⟩ = some (.int .i64 C.L[k].key) ∧ W.cell? ⟨gr, k * 4 + 1, none⟩ = some (.string C.L[k].data)) := fun W hW => by
        obtain ⟨g', e1, e2, e3, _⟩ := HAt.out W hW k hkL
        obtain rfl : gr = g' := by simpa using e1
        exact ⟨e2, e3⟩
      have HS := Lib.hid (dd_succ C.L k hkL)
      rw [← HM.out] at HS
      generalize C.L[k].key = xk at *
      generalize C.L[k].data = xd at *
      generalize C.L[k].dirty = xb at *
      clear hkL
      cases xb
      · have HS2 : Hid (M = dd C.L (k + 1)) := by show _ = _; rw [HS.out]; rfl
        clear HS HAk
        go_wp2
        go_roundw
        case rel => exact ⟨k + 1, M, by omega, by go_num, HS2, by omega, HO, HB⟩
        case measure => simp [intOf]; omega
      · have HS2 : Hid (dd C.L (k + 1) = ins (xk, xd) M) := by show _ = _; rw [HS.out]; rfl
        have HIL := Lib.hid (ins_len (xk, xd) M)
        clear HS
        obtain ⟨ml, hmlen⟩ : ∃ ml, M.length = ml := ⟨_, rfl⟩
        have HML := Lib.hid hmlen
        rw [hmlen] at hml ⊢
        clear hmlen
        have hbw : w.heap.size ≤ wr.heap.size := hbr
        obtain ⟨wo, hwo⟩ : ∃ W, wr = W := ⟨_, rfl⟩
        have HWO : Hid (wr = wo) := hwo
        have HOo : Hid (OwnW w.heap.size wo (.slice ao M.length co) M) := by rw [← hwo]; exact HO
        have HBo : Hid (Below w.heap.size w wo) := by rw [← hwo]; exact HB
        clear hwo
        go_wp2_with fail
        rw [HWO.out]
        go_loopw [5] (fun iv wq => ∃ i : Nat, i ≤ ml ∧ iv = .int .i64 (i : Int) ∧ Hid (∀ j (hj : j < M.length), j < i → M[j].1 < xk) ∧ Hid (Below wo.heap.size wo wq)) (fun iv _ => ml - (intOf iv).toNat)
        case atStart => exact ⟨0, Nat.zero_le _, rfl, fun j hj h => absurd h (Nat.not_lt_zero _), (show Below _ _ _ from Below.refl _ _)⟩
        case round =>
          obtain ⟨i, hi9, rfl, HI, HBq⟩ := hrel
          have HBX : Hid (Below w.heap.size w wr) := HBo.out.trans (HBq.out.mono HBo.out.size)
          have HOX : Hid (OwnW w.heap.size wr (.slice ao M.length co) M) := HOo.out.below HBq.out
          have c0 := HC0.out _ HBX.out
          obtain ⟨x0, x1⟩ := HAk.out _ HBX.out
          by_cases hil : i < ml
          · have hiz : (i : Int) < (ml : Int) := by omega
            have hiM : i < M.length := by rw [HML.out]; exact hil
            have hsl := (OwnW.sl HOX.out)
            obtain ⟨go, rfl, hgol, y0, y1⟩ := hsl.at hiM
            by_cases hlt9 : M[i].1 < xk
            · have HI2 : Hid (∀ j (hj : j < M.length), j < i + 1 → M[j].1 < xk) := fun j hj h => by
                by_cases e : j = i
                · subst e; exact hlt9
                · exact HI.out j hj (by omega)
              have hd : decide (M[i].1 < xk) = true := decide_eq_true hlt9
              generalize M[i].1 = mx at *
              clear hiM y1 hsl
              go_wp2_with fail
              go_quiet (fail)
              have HBn : Hid (Below wo.heap.size wo (wr.drewN nq)) := below_drewN HBq.out _
              go_wp2
              go_roundw
              case rel => exact ⟨i + 1, by omega, by go_num, HI2, HBn⟩
              case measure => simp [intOf]; omega
            · have HE2 : Hid (∀ (h : i < M.length), ¬ M[i].1 < xk) := fun _ => hlt9
              have hd : decide (M[i].1 < xk) = false := decide_eq_false hlt9
              have HXK0 : Hid (∀ W, Below w.heap.size w W → W.cell? ⟨p, 0, none⟩ = some (.slice (some ⟨gr, 0, none⟩) n c2) ∧ W.cell? ⟨gr, k * 4, none⟩ = some (.int .i64 xk) ∧ W.cell? ⟨gr, k * 4 + 1, none⟩ = some (.string xd)) := fun W hW => ⟨by rw [HC0.out W hW], (HAk.out W hW).1, (HAk.out W hW).2⟩
              generalize M[i].1 = mx at hlt9 hd y0
              clear hiM y1 hsl
              go_wp2_with fail
              go_quiet (fail)
              have HBX2 : Hid (Below w.heap.size w (wr.drewN nq)) := below_drewN HBX.out _
              have HOX2 : Hid (OwnW w.heap.size (wr.drewN nq) (.slice (some ⟨go, 0, none⟩) M.length co) M) := HOX.out.below (below_drewN (Below.refl _ _) nq)
              clear c0 x0 x1 y0
              go_wp2_with fail
              have HINS : Hid (ins (xk, xd) M = M.take i ++ (xk, xd) :: M.drop i) := ins_at M (xk, xd) i (by have := HML.out; omega) HI.out (fun h => by have := HE2.out h; show ¬ _ < xk; omega)
              obtain ⟨X, hX⟩ : ∃ X, wr.drewN nq = X := ⟨_, rfl⟩
              rw [hX] at HBX2 HOX2
              rw [hX]
              clear hX HI HE2
              obtain ⟨c0, x0, x1⟩ := HXK0.out X HBX2.out
              have HXK : Hid (∀ W, Below X.heap.size X W → W.cell? ⟨p, 0, none⟩ = some (.slice (some ⟨gr, 0, none⟩) n c2) ∧ W.cell? ⟨gr, k * 4, none⟩ = some (.int .i64 xk) ∧ W.cell? ⟨gr, k * 4 + 1, none⟩ = some (.string xd)) := fun W hW => HXK0.out W (HBX2.out.trans (hW.mono HBX2.out.size))
              have hwX : w.heap.size ≤ X.heap.size := HBX2.out.size
              have hpX : p < X.heap.size := World.block_lt_of_cell? _ _ c0
              have hgrX : gr < X.heap.size := World.block_lt_of_cell? _ _ x0
              have hMi : i ≤ M.length := by have := HML.out; omega
              obtain ⟨fv, rv, hfv, hrv, hA1, hA2⟩ := dirty_ap (X := X) (B := w.heap.size) (i := i) HOX2.out hMi hwX (by have := HML.out; omega)
              rw [HML.out] at hfv hrv
              have HFI : Hid (flatI (M.take i) ++ [.int .i64 xk, .string xd] ++ flatI (M.drop i) = flatI (ins (xk, xd) M)) := by show _ = _; rw [HINS.out, flatI_append]; simp [flatI]
              refine r9_region (xk := xk) (xd := xd) (p := p) (k := k) (i := i) (n := n) (c2 := c2) (gr := gr) (by kernel_rfl) (by kernel_rfl) (by kernel_rfl) (by kernel_rfl) rfl rfl rfl rfl rfl rfl hfv hrv hlt HXK.out hwX hA1 hA2 (by omega) ?_
              intro us v3 w9 hus HO9 HB9
              match us, hus with
              | [u46, u47, u48, u49, u50, u51, u52, u53, u54, u55, u56, u57, u58, u59, u60, u61, u62, u63, u64, u65, u66, u67, u68, u69, u70, u71, u72, u73], _ =>
                have HBF : Hid (Below w.heap.size w w9) := HBX2.out.trans (HB9.out.mono HBX2.out.size)
                have HOF : Hid (OwnW w.heap.size w9 v3 (ins (xk, xd) M)) := by
                  have h9 := HO9.out
                  rw [HFI.out] at h9
                  show World.ownsRow _ _ _ _ _ _ _
                  rw [HIL.out]
                  have : i + 1 + (M.length - i) = M.length + 1 := by omega
                  rw [this] at h9
                  exact h9
                obtain ⟨a9, c9, rfl⟩ := own_shape HOF.out
                have HI9 : Hid ((ins (xk, xd) M).length = ml + 1) := by show _ = _; rw [HIL.out, HML.out]
                clear hfv hrv hA1 hA2 HO9 HB9 HFI HINS HXK hwX hpX hgrX
                go_wp2_with fail
                go_roundw
                case rel => exact ⟨k + 1, ins (xk, xd) M, by omega, by go_num, (show _ = _ from HS2.out.symm), by have := HI9.out; omega, HOF, HBF⟩
                case measure => simp [intOf]; omega
          · obtain rfl : i = ml := by omega
            have hiz : ¬ (i : Int) < (i : Int) := by omega
            have HE2 : Hid (∀ (h : i < M.length), ¬ M[i].1 < xk) := fun h => by have := HML.out; omega
            have HXK0 : Hid (∀ W, Below w.heap.size w W → W.cell? ⟨p, 0, none⟩ = some (.slice (some ⟨gr, 0, none⟩) n c2) ∧ W.cell? ⟨gr, k * 4, none⟩ = some (.int .i64 xk) ∧ W.cell? ⟨gr, k * 4 + 1, none⟩ = some (.string xd)) := fun W hW => ⟨by rw [HC0.out W hW], (HAk.out W hW).1, (HAk.out W hW).2⟩
            clear c0 x0 x1
            have c0 := HC0.out _ HBX.out
            go_wp2_with fail
            go_quiet (fail)
            have HBX2 : Hid (Below w.heap.size w (wr.drewN nq)) := below_drewN HBX.out _
            have HOX2 : Hid (OwnW w.heap.size (wr.drewN nq) (.slice ao M.length co) M) := HOX.out.below (below_drewN (Below.refl _ _) nq)
            clear c0
            go_wp2_with fail
            have HINS : Hid (ins (xk, xd) M = M.take i ++ (xk, xd) :: M.drop i) := ins_at M (xk, xd) i (by have := HML.out; omega) HI.out (fun h => by have := HE2.out h; show ¬ _ < xk; omega)
            obtain ⟨X, hX⟩ : ∃ X, wr.drewN nq = X := ⟨_, rfl⟩
            rw [hX] at HBX2 HOX2
            rw [hX]
            clear hX HI HE2
            obtain ⟨c0, x0, x1⟩ := HXK0.out X HBX2.out
            have HXK : Hid (∀ W, Below X.heap.size X W → W.cell? ⟨p, 0, none⟩ = some (.slice (some ⟨gr, 0, none⟩) n c2) ∧ W.cell? ⟨gr, k * 4, none⟩ = some (.int .i64 xk) ∧ W.cell? ⟨gr, k * 4 + 1, none⟩ = some (.string xd)) := fun W hW => HXK0.out W (HBX2.out.trans (hW.mono HBX2.out.size))
            have hwX : w.heap.size ≤ X.heap.size := HBX2.out.size
            have hpX : p < X.heap.size := World.block_lt_of_cell? _ _ c0
            have hgrX : gr < X.heap.size := World.block_lt_of_cell? _ _ x0
            have hMi : i ≤ M.length := by have := HML.out; omega
            obtain ⟨fv, rv, hfv, hrv, hA1, hA2⟩ := dirty_ap (X := X) (B := w.heap.size) (i := i) HOX2.out hMi hwX (by have := HML.out; omega)
            rw [HML.out] at hfv hrv
            have HFI : Hid (flatI (M.take i) ++ [.int .i64 xk, .string xd] ++ flatI (M.drop i) = flatI (ins (xk, xd) M)) := by show _ = _; rw [HINS.out, flatI_append]; simp [flatI]
            refine r9_region (xk := xk) (xd := xd) (p := p) (k := k) (i := i) (n := n) (c2 := c2) (gr := gr) (by kernel_rfl) (by kernel_rfl) (by kernel_rfl) (by kernel_rfl) rfl rfl rfl rfl rfl rfl hfv hrv hlt HXK.out hwX hA1 hA2 (by omega) ?_
            intro us v3 w9 hus HO9 HB9
            match us, hus with
            | [u46, u47, u48, u49, u50, u51, u52, u53, u54, u55, u56, u57, u58, u59, u60, u61, u62, u63, u64, u65, u66, u67, u68, u69, u70, u71, u72, u73], _ =>
              have HBF : Hid (Below w.heap.size w w9) := HBX2.out.trans (HB9.out.mono HBX2.out.size)
              have HOF : Hid (OwnW w.heap.size w9 v3 (ins (xk, xd) M)) := by
                have h9 := HO9.out
                rw [HFI.out] at h9
                show World.ownsRow _ _ _ _ _ _ _
                rw [HIL.out]
                have : i + 1 + (M.length - i) = M.length + 1 := by omega
                rw [this] at h9
                exact h9
              obtain ⟨a9, c9, rfl⟩ := own_shape HOF.out
              have HI9 : Hid ((ins (xk, xd) M).length = i + 1) := by show _ = _; rw [HIL.out, HML.out]
              clear hfv hrv hA1 hA2 HO9 HB9 HFI HINS HXK hwX hpX hgrX
              go_wp2_with fail
              go_roundw
              case rel => exact ⟨k + 1, ins (xk, xd) M, by omega, by go_num, (show _ = _ from HS2.out.symm), by have := HI9.out; omega, HOF, HBF⟩
              case measure => simp [intOf]; omega
    · obtain rfl : k = n := by omega
      have hkz : ¬ (k : Int) < (k : Int) := by omega
      have HE : Hid (SlW wr (.slice ao M.length co) C.dirty) := by
        have : M = C.dirty := by rw [HM.out, ← HDA.out, HN.out]
        rw [← this]
        exact OwnW.sl HO.out
      go_wp2
      go_ret
      exact ⟨_, rfl, HE, HB⟩
end
end Go.Proofs.Yteeoglfgilabaaa
/- The document's cache: what New answers and leaves behind. -/
namespace Go.Proofs.Yteeoglfgilabaaa
open Go.RowKit

set_option maxRecDepth 100000 in
set_option maxHeartbeats 1000000 in
theorem qnew_any (m : Int) (w : World) : Calls Try.prog 11 #[.int .i64 m] w fun e w' => e = .returned (.tuple #[.pointer (some ⟨w.heap.size, 0, none⟩), .bool (decide (1 ≤ m ∧ m ≤ 1024))]) ∧ R3 w' w.heap.size (.slice none 0 0) [] m 0 ∧ Below w.heap.size w w' := by
  have HX : Hid (R3 (w.alloc (.cells #[.slice none 0 0, .int .i64 m, .int .i64 0] 42)) w.heap.size (.slice none 0 0) [] m 0 ∧ Below w.heap.size w (w.alloc (.cells #[.slice none 0 0, .int .i64 m, .int .i64 0] 42))) :=
    ⟨⟨heap_alloc_new .., ⟨rfl, .inl ⟨rfl, rfl⟩⟩, by simp [Value.ownBlock]⟩, (Below.refl _ _).alloc (Nat.le_refl _) _⟩
  by_cases h1 : 1 ≤ m
  · by_cases h2 : m ≤ 1024
    · have e : decide (1 ≤ m ∧ m ≤ 1024) = true := decide_eq_true ⟨h1, h2⟩
      rw [e]
      clear e
      go_enter Try.func11, Try.ntmps11
      go_wp2
      go_ret2
      exact ⟨rfl, HX.out.1, HX.out.2⟩
    · have e : decide (1 ≤ m ∧ m ≤ 1024) = false := decide_eq_false (fun h => h2 h.2)
      rw [e]
      clear e
      go_enter Try.func11, Try.ntmps11
      go_wp2
      go_ret2
      exact ⟨rfl, HX.out.1, HX.out.2⟩
  · have e : decide (1 ≤ m ∧ m ≤ 1024) = false := decide_eq_false (fun h => h1 h.1)
    rw [e]
    clear e
    go_enter Try.func11, Try.ntmps11
    go_wp2
    go_ret2
    exact ⟨rfl, HX.out.1, HX.out.2⟩
end Go.Proofs.Yteeoglfgilabaaa
/- A program's cache and the document's, side by side. -/
namespace Go.Proofs.Yteeoglfgilabaaa
open Go.RowKit

/-- Block p1 is a cache that says C, block p2 the document's (its row v2), that says K; all on new memory, apart from one another. -/
structure PQ (w0 w : World) (p1 p2 : Nat) (v2 : Value) (C K : CS) : Prop where
  ex : ∃ S : Nat → Prop, (∀ k, S k → w0.heap.size ≤ k) ∧ Cch S w p1 src0 C ∧ ¬ S p2 ∧ ∀ k, v2.ownBlock = some k → ¬ S k
  q : RQ w p2 v2 K
  g2 : w0.heap.size ≤ p2
  gv : ∀ k, v2.ownBlock = some k → w0.heap.size ≤ k
  bel : Below w0.heap.size w0 w
section
variable {w0 w w' : World} {p1 p2 : Nat} {v2 : Value} {C C' K K' : CS}
theorem PQ.ok (h : PQ w0 w p1 p2 v2 C K) : C.Ok := by obtain ⟨S, _, hc, _⟩ := h.ex; exact hc.ok
theorem PQ.below (h : PQ w0 w p1 p2 v2 C K) (hb : Below w.heap.size w w') : PQ w0 w' p1 p2 v2 C K := by
  obtain ⟨S, h1, h2, h3, h4⟩ := h.ex
  exact ⟨⟨S, h1, h2.below hb, h3, h4⟩, R3.below h.q hb, h.g2, h.gv, h.bel.trans (hb.mono h.bel.size)⟩
theorem PQ.left (h : PQ w0 w p1 p2 v2 C K) {f : FuncId} {args : Array Value} {r : Value} (hc : ∀ S, Cch S w p1 src0 C → Calls Try.prog f args w fun e w' => e = .returned r ∧ CLeaves S w w' p1 src0 C') :
    Calls Try.prog f args w fun e w' => e = .returned r ∧ Hid (PQ w0 w' p1 p2 v2 C' K) := by
  obtain ⟨S, h1, h2, h3, h4⟩ := h.ex
  have hlt := R3.lt h.q
  have hol := R3.own_lt h.q
  refine (hc S h2).mono fun e w' ⟨he, S', i1, i2, i3⟩ => ⟨he, ⟨S', fun k hk => ?_, i2, fun hk => ?_, fun k hk hs => ?_⟩, R3.kept h.q i3 h3 h4, h.g2, h.gv, h.bel.trans (i3.below h.bel.size (fun k _ hk => h1 k hk))⟩
  · rcases i1 k hk with e | e
    · exact h1 k e
    · exact Nat.le_trans h.bel.size e
  · rcases i1 _ hk with e | e
    · exact h3 e
    · omega
  · rcases i1 _ hs with e | e
    · exact h4 k hk e
    · have := hol k hk; omega
theorem PQ.right (h : PQ w0 w p1 p2 v2 C K) {f : FuncId} {args : Array Value} {r : Value} (hc : RQ w p2 v2 K → Calls Try.prog f args w fun e w' => e = .returned r ∧ QC w w' p2 v2 K') :
    Calls Try.prog f args w fun e w' => e = .returned r ∧ Hid (∃ v2', PQ w0 w' p1 p2 v2' C K') := by
  obtain ⟨S, h1, h2, h3, h4⟩ := h.ex
  refine (hc h.q).mono fun e w' ⟨he, v', i1, i2, i3⟩ => ⟨he, v', ⟨S, h1, h2.kept i3 (fun k hk hx => ?_), h3, fun k hk hs => ?_⟩, i1, h.g2, fun k hk => ?_, h.bel.trans (i3.below h.bel.size (fun k _ hk => ?_))⟩
  · rcases hx with hx | hx
    · exact h3 (hx ▸ hk)
    · exact h4 k hx hk
  · rcases i2 k hk with e | e
    · exact h4 k e hs
    · have := h2.lt k hs; omega
  · rcases i2 k hk with e | e
    · exact h.gv k e
    · exact Nat.le_trans h.bel.size e
  · rcases hk with hk | hk
    · rw [hk]; exact h.g2
    · exact h.gv k hk
theorem PQ.misses (h : PQ w0 w p1 p2 v2 C K) : Calls Try.prog 15 #[.pointer (some ⟨p1, 0, none⟩)] w fun e w' => e = .returned (.int .i64 (C.misses : Int)) ∧ w' = w := by
  obtain ⟨S, h1, h2, h3, h4⟩ := h.ex
  exact (misses_any h2).mono fun _ _ h => ⟨h.1, h.2.symm⟩
theorem PQ.blocks (h : PQ w0 w p1 p2 v2 C K) : Calls Try.prog 16 #[.pointer (some ⟨p1, 0, none⟩)] w fun e w' => ∃ v, e = .returned v ∧ Hid (SlI w' v (keys C.L)) ∧ Hid (Below w.heap.size w w') := by
  obtain ⟨S, h1, h2, h3, h4⟩ := h.ex
  exact (blocks_any h2).mono fun e w' ⟨v, he, hr, hb⟩ => ⟨v, he, SlI.of_own hr, hb⟩
theorem PQ.dirty (h : PQ w0 w p1 p2 v2 C K) : Calls Try.prog 17 #[.pointer (some ⟨p1, 0, none⟩)] w fun e w' => ∃ v, e = .returned v ∧ Hid (SlW w' v C.dirty) ∧ Hid (Below w.heap.size w w') := by
  obtain ⟨S, h1, h2, h3, h4⟩ := h.ex
  exact (dirty_any h2).mono fun e w' ⟨v, he, hs, hb, _⟩ => ⟨v, he, hs, hb⟩
theorem PQ.start {q : Nat} (h : Home w0 w p1 (CS.new (1 + q))) (hq : R3 w' w.heap.size (.slice none 0 0) [] ((1 + q : Nat) : Int) 0) (hb : Below w.heap.size w w') : PQ w0 w' p1 w.heap.size (.slice none 0 0) (CS.new (1 + q)) (CS.new (1 + q)) := by
  obtain ⟨S, h1, h2, h3⟩ := h
  exact ⟨⟨S, h1, h2.below hb, fun hk => by have := h2.lt _ hk; omega, fun k hk => by cases hk⟩, hq, h3.size, fun k hk => (by cases hk), h3.trans (hb.mono h3.size)⟩
end
theorem SlI.at {W : World} {ao : Option Addr} {n c : Nat} {L : List Int} (h : SlI W (.slice ao n c) L) {i : Nat} (hi : i < L.length) : ∃ g, ao = some ⟨g, 0, none⟩ ∧ g < W.heap.size ∧ W.cell? ⟨g, i, none⟩ = some (.int .i64 L[i]) := by
  obtain ⟨ao', c', hv, h⟩ := h
  obtain ⟨rfl, _, rfl⟩ : ao = ao' ∧ n = L.length ∧ c = c' := by simpa using hv
  rcases h with h | ⟨g, e, hlt, hc⟩
  · subst h; simp at hi
  · exact ⟨g, e, hlt, hc i hi⟩
/-- New of any size, by the program: whether there is a cache, and the error. -/
theorem new_asked (a0 : Int) : (1 ≤ a0 ∧ a0 ≤ 1024 ∧ ∀ W, Calls Try.prog 10 #[src0, .int .i64 a0] W fun e w' => ∃ p0 : Nat, e = .returned (.tuple #[.pointer (some ⟨p0, 0, none⟩), .int .i64 0]) ∧ Hid (Below W.heap.size W w')) ∨
    (¬ (1 ≤ a0 ∧ a0 ≤ 1024) ∧ ∀ W, Calls Try.prog 10 #[src0, .int .i64 a0] W fun e w' => ∃ _p0 : Nat, e = .returned (.tuple #[.pointer none, .int .i64 2]) ∧ Hid (Below W.heap.size W w')) := by
  by_cases h : 1 ≤ a0 ∧ a0 ≤ 1024
  · left
    obtain ⟨m, rfl⟩ : ∃ m : Nat, a0 = (m : Int) := Int.eq_ofNat_of_zero_le (by omega)
    refine ⟨h.1, h.2, fun W => (new_yes _ _ m W (by omega) (by omega)).mono fun e w' ⟨p, he, _, _, _, hb⟩ => ⟨p, he, hb⟩⟩
  · right
    refine ⟨h, fun W => (new_no _ _ a0 W (by omega)).mono fun e w' ⟨he, hw⟩ => ⟨0, he, ?_⟩⟩
    subst hw
    exact Below.refl _ _
end Go.Proofs.Yteeoglfgilabaaa
/- The walk of CachePlays. -/
namespace Go.Proofs.Yteeoglfgilabaaa
open Go.RowKit

set_option maxRecDepth 100000 in
set_option maxHeartbeats 4000000 in
theorem cplays_any (a0 : Int) (v1 : Value) (L : List Act6) (w : World) (h0 : -9223372036854775808 ≤ a0 ∧ a0 ≤ 9223372036854775807) (hA : Acts6 w v1 L) :
    Calls Try.prog 3 #[.int .i64 a0, v1] w fun e w' => e = .returned (.bool true) ∧ Below w.heap.size w w' := by
  have HS := Lib.hid (shown_any w)
  obtain ⟨ao, cap, hv⟩ : ∃ ao cap, v1 = .slice ao L.length cap := by obtain ⟨_, _, ao, cap, hv, _⟩ := hA; exact ⟨ao, cap, hv⟩
  have hlen := hA.2.1
  have HA := Lib.hid hA
  have HV := Lib.hid hv
  obtain ⟨n, hn⟩ : ∃ n, L.length = n := ⟨_, rfl⟩
  have HN := Lib.hid hn
  rw [hn] at hlen hv
  subst hv
  clear hn hA
  by_cases hl : 200 < n
  · have hlz : (200 : Int) < (n : Int) := by omega
    clear hl h0
    go_enter Try.func3, Try.ntmps3
    go_wp2_with fail
    refine HS.out.mono ?_
    rintro e w1 ⟨rfl, hb⟩
    go_wp2
    go_ret
    exact ⟨rfl, hb.out⟩
  · have hlz : ¬ (200 : Int) < (n : Int) := by omega
    obtain ⟨q, hq, hqe⟩ := many_nat 0 a0
    have HP0 : Hid (∀ W, Calls Try.prog 12 #[.int .i64 a0, .int .i64 8] W fun e w' => e = .returned (.int .i64 (q : Int)) ∧ W = w') := fun W => by rw [← hqe]; exact pick_any a0 8 W h0 (by omega)
    have HNEW : Hid (∀ W, Below w.heap.size w W → Calls Try.prog 10 #[src0, .int .i64 (1 + (q : Int))] W fun e w' => ∃ p, e = .returned (.tuple #[.pointer (some ⟨p, 0, none⟩), .int .i64 0]) ∧ Hid (Home w w' p (CS.new (1 + q)))) := fun W hW => new_one q w W hW hq
    have HQN : Hid (∀ W, Calls Try.prog 11 #[.int .i64 (1 + (q : Int))] W fun e w' => ∃ b : Bool, e = .returned (.tuple #[.pointer (some ⟨W.heap.size, 0, none⟩), .bool b]) ∧ R3 w' W.heap.size (.slice none 0 0) [] ((1 + q : Nat) : Int) 0 ∧ Below W.heap.size W w') := fun W => by
      have := qnew_any (1 + (q : Int)) W
      rw [show (1 + (q : Int)) = ((1 + q : Nat) : Int) by omega] at this ⊢
      exact this.mono fun e w' ⟨h1, h2, h3⟩ => ⟨_, h1, h2, h3⟩
    have HQ0 : Hid (∀ W, Calls Try.prog 11 #[.int .i64 a0] W fun e w' => e = .returned (.tuple #[.pointer (some ⟨W.heap.size, 0, none⟩), .bool (decide (1 ≤ a0 ∧ a0 ≤ 1024))]) ∧ Hid (Below W.heap.size W w')) := fun W => (qnew_any a0 W).mono fun e w' ⟨h1, h2, h3⟩ => ⟨h1, h3⟩
    clear hqe h0 hl
    have hcases := new_asked a0
    rcases hcases with ⟨hc1, hc2, HN0'⟩ | ⟨hc1, HN0'⟩
    · have e : decide (1 ≤ a0 ∧ a0 ≤ 1024) = true := decide_eq_true ⟨hc1, hc2⟩
      rw [e] at HQ0
      have HN0 := Lib.hid HN0'
      clear e hc1 hc2 HN0'
      go_enter Try.func3, Try.ntmps3
      go_wp2_with fail
      refine HS.out.mono ?_
      rintro e w1 ⟨rfl, hb⟩
      go_wp2_with fail
      refine (HN0.out _).mono ?_
      rintro e w2 ⟨p0, rfl, hb2⟩
      go_wp2_with fail
      refine (HQ0.out _).mono ?_
      rintro e w3 ⟨rfl, hb3⟩
      have HB3 : Hid (Below w.heap.size w w3) := by
        have h2 := hb.out.trans (hb2.out.mono hb.out.size)
        exact h2.trans (hb3.out.mono h2.size)
      clear hb hb2 hb3 HN0 HQ0
      go_wp2_with fail
      refine (HP0.out _).mono ?_
      rintro e w3' ⟨rfl, rfl⟩
      go_wp2_with fail
      refine (HNEW.out _ HB3.out).mono ?_
      rintro e w4 ⟨p1, rfl, c0⟩
      go_wp2_with fail
      refine (HQN.out _).mono ?_
      rintro e w5 ⟨bq, rfl, hr5, hb5⟩
      have HPQ : Hid (PQ w w5 p1 w4.heap.size (.slice none 0 0) (CS.new (1 + q)) (CS.new (1 + q))) := PQ.start c0.out hr5 hb5
      have HST : Hid (Bd 0 (CS.new (1 + q))) := Bd.new _
      obtain ⟨p2, hp2⟩ : ∃ p, w4.heap.size = p := ⟨_, rfl⟩
      rw [hp2] at HPQ ⊢
      clear hp2 hr5 hb5 c0 HNEW HQN HP0 HB3
      generalize CS.new (1 + q) = C0 at *
      go_wp2_with fail
      go_loopw [15, 16, 17, 18, 19] (fun iv _ _ _ _ wr => ∃ j : Nat, j ≤ n ∧ iv = .int .i64 (j : Int) ∧ Hid (∃ C v2, PQ w wr p1 p2 v2 C C ∧ Bd j C)) (fun iv _ _ _ _ _ => n - (intOf iv).toNat)
      case atStart => exact ⟨0, Nat.zero_le _, rfl, C0, _, HPQ.out, HST.out⟩
      case round =>
        obtain ⟨j, hj, rfl, HI⟩ := hrel
        obtain ⟨C, v2, hC⟩ := HI.out
        have HC := Lib.hid hC
        clear hC HI HPQ HST
        by_cases hlt : j < n
        · have hkz : (j : Int) < (n : Int) := by omega
          have hkL : j < L.length := by rw [HN.out]; exact hlt
          obtain ⟨g, off, cap', hv', d0, d1, d2, d3⟩ := HA.out.cell HC.out.1.bel j hkL
          obtain ⟨rfl, hnl, rfl⟩ : ao = some ⟨g, off, none⟩ ∧ n = L.length ∧ cap = cap' := by simpa using hv'
          have HAO := Lib.hid (HA.out.1 L[j] (List.getElem_mem hkL))
          have HD : Hid (∀ W, Below w.heap.size w W → HeldG g (off + j * 4) L[j] W) := fun W hW => HA.out.held hW j hkL
          clear hv' hnl
          generalize L[j] = A at *
          clear hkL
          have G := Lib.hid (HC.out.1.left fun S hc => does_cch hc A HAO.out HC.out.2 (by omega))
          have HBD := Lib.hid (HC.out.2.does A)
          have HOKC := Lib.hid HC.out.1.ok
          go_wp2_with fail
          refine G.out.mono ?_
          rintro e w6 ⟨rfl, hh⟩
          clear G d0 d1 d2 d3
          obtain ⟨d0, d1, d2, d3⟩ := HD.out w6 hh.out.bel
          have G := Lib.hid (hh.out.right fun hr => model_any A HAO.out hr HOKC.out)
          generalize C.does A = R at *
          obtain ⟨⟨rs, re⟩, R2⟩ := R
          clear HC
          go_wp2_with fail
          refine G.out.mono ?_
          rintro e w7 ⟨rfl, hh2⟩
          obtain ⟨v3, hP7⟩ := hh2.out
          have HP7 : Hid (PQ w w7 p1 p2 v3 R2 R2) := hP7
          have HM : Hid (∀ k, Calls Try.prog 15 #[.pointer (some ⟨p1, 0, none⟩)] (w7.drewN k) fun e w' => e = .returned (.int .i64 (R2.misses : Int)) ∧ w' = w7.drewN k) := fun k => (HP7.out.below (below_drewN (Below.refl _ _) k)).misses
          have c2 := R3.c2 HP7.out.q
          clear hP7 hh hh2 G d0 d1 d2 d3
          have b2 : (re != re) = false := by simp
          have b3 : ((R2.misses : Int) != (R2.misses : Int)) = false := by simp
          go_wp2_with fail
          go_quiet ((go_at_call 15; exact Calls.quiet_of_same (HM.out _)))
          have HPN := Lib.hid (HP7.out.below (below_drewN (Below.refl _ _) nq))
          clear HM c2 HP7
          go_wp2
          go_roundw
          case rel => exact ⟨j + 1, by omega, by go_num, R2, v3, HPN.out, HBD.out⟩
          case measure => simp [intOf]; omega
        · have hkz : ¬ (j : Int) < (n : Int) := by omega
          have HP := Lib.hid HC.out.1
          have HOK := Lib.hid HC.out.1.ok
          have hnl : C.L.length ≤ 1024 := by have := HOK.out.len; have := HOK.out.m1; omega
          have hdl : C.dirty.length ≤ 5000 := by
            have h1 := C.dirty_perm.length_eq
            have h2 := dls_len C.L
            omega
          have G := Lib.hid HP.out.blocks
          clear HC HA
          go_wp2_with fail
          refine G.out.mono ?_
          rintro e w8 ⟨vb, rfl, hs8, hb8⟩
          have HP8 := Lib.hid (HP.out.below hb8.out)
          have G := Lib.hid HP8.out.dirty
          clear HP hb8
          go_wp2_with fail
          refine G.out.mono ?_
          rintro e w9 ⟨vd, rfl, hs9, hb9⟩
          have HP9 := Lib.hid (HP8.out.below hb9.out)
          have HS8 := Lib.hid (hs8.out.below hb9.out)
          have G := Lib.hid (qdirty_any HP9.out.q HOK.out)
          clear HP8 hb9 hs8
          go_wp2_with fail
          refine G.out.mono ?_
          rintro e w10 ⟨vw, rfl, hs10, hb10⟩
          have HP10 := Lib.hid (HP9.out.below hb10.out)
          have HSB := Lib.hid (HS8.out.below hb10.out)
          have HSD := Lib.hid (hs9.out.below hb10.out)
          have HSW := Lib.hid hs10.out
          clear HP9 HS8 hb10 hs9 hs10 G
          have HR := Lib.hid HP10.out.q
          have HBE := Lib.hid HP10.out.bel
          clear HP10
          obtain ⟨ab, cb, hvb⟩ : ∃ ao c, vb = .slice ao C.L.length c := by obtain ⟨ao, c, h, _⟩ := HSB.out; exact ⟨ao, c, by rw [h, keys_len]⟩
          obtain ⟨ad, cd, hvd⟩ : ∃ ao c, vd = .slice ao C.dirty.length c := by obtain ⟨ao, c, h, _⟩ := HSD.out; exact ⟨ao, c, h⟩
          obtain ⟨aw, cw, hvw⟩ : ∃ ao c, vw = .slice ao C.dirty.length c := by obtain ⟨ao, c, h, _⟩ := HSW.out; exact ⟨ao, c, h⟩
          obtain ⟨a2, c2, hv2⟩ := own_shape (R3.hr HR.out)
          subst hvb hvd hvw hv2
          have HR0 : Hid (∀ W, Below w10.heap.size w10 W → W.cell? ⟨p2, 0, none⟩ = some (.slice a2 C.L.length c2)) := fun W hW => (R3.below HR.out hW).c0
          have HR1 : Hid (∀ W, Below w10.heap.size w10 W → ∀ k (hk : k < C.L.length), ∃ g, a2 = some ⟨g, 0, none⟩ ∧ W.cell? ⟨g, k * 4, none⟩ = some (.int .i64 C.L[k].key)) := fun W hW k hk => by
            obtain ⟨g, e1, e2, _⟩ := R3.at (R3.below HR.out hW) hk
            exact ⟨g, e1, e2⟩
          have HB1 : Hid (∀ W, Below w10.heap.size w10 W → ∀ k (hk : k < C.L.length), ∃ g, ab = some ⟨g, 0, none⟩ ∧ W.cell? ⟨g, k, none⟩ = some (.int .i64 C.L[k].key)) := fun W hW k hk => by
            obtain ⟨g, e1, _, e2⟩ := (HSB.out.below hW).at (i := k) (by rw [keys_len]; exact hk)
            refine ⟨g, e1, e2.trans ?_⟩
            unfold keys
            rw [List.getElem_map]
          have c0 := HR0.out _ (Below.refl _ _)
          generalize C.dirty = DD at *
          obtain ⟨m, hm⟩ : ∃ m, DD.length = m := ⟨_, rfl⟩
          obtain ⟨nn, hnn⟩ : ∃ m, C.L.length = m := ⟨_, rfl⟩
          have HM := Lib.hid hm; have HNN := Lib.hid hnn
          rw [hm] at hdl ⊢
          rw [hnn] at hnl c0 HR0 ⊢
          clear hm hnn HR HOK
          have b1 : ((nn : Int) != (nn : Int)) = false := by simp
          have b2 : ((m : Int) != (m : Int)) = false := by simp
          go_wp2_with fail
          go_loopw [23] (fun kv wr => ∃ k : Nat, k ≤ nn ∧ kv = .int .i64 (k : Int) ∧ Hid (Below w10.heap.size w10 wr)) (fun kv _ => nn - (intOf kv).toNat)
          case atStart => exact ⟨0, Nat.zero_le _, rfl, (show Below _ _ _ from Below.refl _ _)⟩
          case round =>
            obtain ⟨k, hk, rfl, HB⟩ := hrel
            by_cases hlt2 : k < nn
            · have hkz2 : (k : Int) < (nn : Int) := by omega
              have hkP : k < C.L.length := by rw [HNN.out]; exact hlt2
              obtain ⟨gr, rfl, x0⟩ := HR1.out _ HB.out k hkP
              obtain ⟨gb, rfl, y0⟩ := HB1.out _ HB.out k hkP
              have c0' := HR0.out _ HB.out
              generalize C.L[k].key = x at *
              clear hkP HR1 HB1
              have b3 : (x != x) = false := by simp
              go_wp2_with fail
              go_quiet (fail)
              have HBn : Hid (Below w10.heap.size w10 (wr.drewN nq)) := below_drewN HB.out _
              go_wp2
              go_roundw
              case rel => exact ⟨k + 1, by omega, by go_num, HBn⟩
              case measure => simp [intOf]; omega
            · have hkz2 : ¬ (k : Int) < (nn : Int) := by omega
              obtain rfl : k = nn := by omega
              clear HR1 HB1 HR0
              go_wp2_with fail
              go_loopw [24] (fun kv wr2 => ∃ k : Nat, k ≤ m ∧ kv = .int .i64 (k : Int) ∧ Hid (Below w10.heap.size w10 wr2)) (fun kv _ => m - (intOf kv).toNat)
              case atStart => exact ⟨0, Nat.zero_le _, rfl, HB⟩
              case round =>
                clear HB
                obtain ⟨i, hi, rfl, HB⟩ := hrel
                by_cases hlt3 : i < m
                · have hiz : (i : Int) < (m : Int) := by omega
                  have hiD : i < DD.length := by rw [HM.out]; exact hlt3
                  have HSD2 := HSD.out.below HB.out
                  have HSW2 := HSW.out.below HB.out
                  rw [HM.out] at HSD2 HSW2
                  obtain ⟨gd, rfl, _, x0, x1⟩ := HSD2.at hiD
                  obtain ⟨gw, rfl, _, y0, y1⟩ := HSW2.at hiD
                  clear HSD2 HSW2
                  generalize DD[i] = x at *
                  clear hiD
                  obtain ⟨xb, xd⟩ := x
                  have b3 : (xb != xb) = false := by simp
                  have b4 : (xb == xb) = true := by simp
                  go_wp2_with fail
                  go_quiet (fail)
                  have HBn : Hid (Below w10.heap.size w10 (wr.drewN nq)) := below_drewN HB.out _
                  go_wp2
                  go_roundw
                  case rel => exact ⟨i + 1, by omega, by go_num, HBn⟩
                  case measure => simp [intOf]; omega
                · have hiz : ¬ (i : Int) < (m : Int) := by omega
                  have HF : Hid (Below w.heap.size w wr) := HBE.out.trans (HB.out.mono HBE.out.size)
                  go_wp2
                  go_ret
                  exact ⟨rfl, HF.out⟩
    · have e : decide (1 ≤ a0 ∧ a0 ≤ 1024) = false := decide_eq_false hc1
      rw [e] at HQ0
      have HN0 := Lib.hid HN0'
      clear e hc1 HN0'
      go_enter Try.func3, Try.ntmps3
      go_wp2_with fail
      refine HS.out.mono ?_
      rintro e w1 ⟨rfl, hb⟩
      go_wp2_with fail
      refine (HN0.out _).mono ?_
      rintro e w2 ⟨p0, rfl, hb2⟩
      go_wp2_with fail
      refine (HQ0.out _).mono ?_
      rintro e w3 ⟨rfl, hb3⟩
      have HB3 : Hid (Below w.heap.size w w3) := by
        have h2 := hb.out.trans (hb2.out.mono hb.out.size)
        exact h2.trans (hb3.out.mono h2.size)
      clear hb hb2 hb3 HN0 HQ0
      go_wp2_with fail
      refine (HP0.out _).mono ?_
      rintro e w3' ⟨rfl, rfl⟩
      go_wp2_with fail
      refine (HNEW.out _ HB3.out).mono ?_
      rintro e w4 ⟨p1, rfl, c0⟩
      go_wp2_with fail
      refine (HQN.out _).mono ?_
      rintro e w5 ⟨bq, rfl, hr5, hb5⟩
      have HPQ : Hid (PQ w w5 p1 w4.heap.size (.slice none 0 0) (CS.new (1 + q)) (CS.new (1 + q))) := PQ.start c0.out hr5 hb5
      have HST : Hid (Bd 0 (CS.new (1 + q))) := Bd.new _
      obtain ⟨p2, hp2⟩ : ∃ p, w4.heap.size = p := ⟨_, rfl⟩
      rw [hp2] at HPQ ⊢
      clear hp2 hr5 hb5 c0 HNEW HQN HP0 HB3
      generalize CS.new (1 + q) = C0 at *
      go_wp2_with fail
      go_loopw [15, 16, 17, 18, 19] (fun iv _ _ _ _ wr => ∃ j : Nat, j ≤ n ∧ iv = .int .i64 (j : Int) ∧ Hid (∃ C v2, PQ w wr p1 p2 v2 C C ∧ Bd j C)) (fun iv _ _ _ _ _ => n - (intOf iv).toNat)
      case atStart => exact ⟨0, Nat.zero_le _, rfl, C0, _, HPQ.out, HST.out⟩
      case round =>
        obtain ⟨j, hj, rfl, HI⟩ := hrel
        obtain ⟨C, v2, hC⟩ := HI.out
        have HC := Lib.hid hC
        clear hC HI HPQ HST
        by_cases hlt : j < n
        · have hkz : (j : Int) < (n : Int) := by omega
          have hkL : j < L.length := by rw [HN.out]; exact hlt
          obtain ⟨g, off, cap', hv', d0, d1, d2, d3⟩ := HA.out.cell HC.out.1.bel j hkL
          obtain ⟨rfl, hnl, rfl⟩ : ao = some ⟨g, off, none⟩ ∧ n = L.length ∧ cap = cap' := by simpa using hv'
          have HAO := Lib.hid (HA.out.1 L[j] (List.getElem_mem hkL))
          have HD : Hid (∀ W, Below w.heap.size w W → HeldG g (off + j * 4) L[j] W) := fun W hW => HA.out.held hW j hkL
          clear hv' hnl
          generalize L[j] = A at *
          clear hkL
          have G := Lib.hid (HC.out.1.left fun S hc => does_cch hc A HAO.out HC.out.2 (by omega))
          have HBD := Lib.hid (HC.out.2.does A)
          have HOKC := Lib.hid HC.out.1.ok
          go_wp2_with fail
          refine G.out.mono ?_
          rintro e w6 ⟨rfl, hh⟩
          clear G d0 d1 d2 d3
          obtain ⟨d0, d1, d2, d3⟩ := HD.out w6 hh.out.bel
          have G := Lib.hid (hh.out.right fun hr => model_any A HAO.out hr HOKC.out)
          generalize C.does A = R at *
          obtain ⟨⟨rs, re⟩, R2⟩ := R
          clear HC
          go_wp2_with fail
          refine G.out.mono ?_
          rintro e w7 ⟨rfl, hh2⟩
          obtain ⟨v3, hP7⟩ := hh2.out
          have HP7 : Hid (PQ w w7 p1 p2 v3 R2 R2) := hP7
          have HM : Hid (∀ k, Calls Try.prog 15 #[.pointer (some ⟨p1, 0, none⟩)] (w7.drewN k) fun e w' => e = .returned (.int .i64 (R2.misses : Int)) ∧ w' = w7.drewN k) := fun k => (HP7.out.below (below_drewN (Below.refl _ _) k)).misses
          have c2 := R3.c2 HP7.out.q
          clear hP7 hh hh2 G d0 d1 d2 d3
          have b2 : (re != re) = false := by simp
          have b3 : ((R2.misses : Int) != (R2.misses : Int)) = false := by simp
          go_wp2_with fail
          go_quiet ((go_at_call 15; exact Calls.quiet_of_same (HM.out _)))
          have HPN := Lib.hid (HP7.out.below (below_drewN (Below.refl _ _) nq))
          clear HM c2 HP7
          go_wp2
          go_roundw
          case rel => exact ⟨j + 1, by omega, by go_num, R2, v3, HPN.out, HBD.out⟩
          case measure => simp [intOf]; omega
        · have hkz : ¬ (j : Int) < (n : Int) := by omega
          have HP := Lib.hid HC.out.1
          have HOK := Lib.hid HC.out.1.ok
          have hnl : C.L.length ≤ 1024 := by have := HOK.out.len; have := HOK.out.m1; omega
          have hdl : C.dirty.length ≤ 5000 := by
            have h1 := C.dirty_perm.length_eq
            have h2 := dls_len C.L
            omega
          have G := Lib.hid HP.out.blocks
          clear HC HA
          go_wp2_with fail
          refine G.out.mono ?_
          rintro e w8 ⟨vb, rfl, hs8, hb8⟩
          have HP8 := Lib.hid (HP.out.below hb8.out)
          have G := Lib.hid HP8.out.dirty
          clear HP hb8
          go_wp2_with fail
          refine G.out.mono ?_
          rintro e w9 ⟨vd, rfl, hs9, hb9⟩
          have HP9 := Lib.hid (HP8.out.below hb9.out)
          have HS8 := Lib.hid (hs8.out.below hb9.out)
          have G := Lib.hid (qdirty_any HP9.out.q HOK.out)
          clear HP8 hb9 hs8
          go_wp2_with fail
          refine G.out.mono ?_
          rintro e w10 ⟨vw, rfl, hs10, hb10⟩
          have HP10 := Lib.hid (HP9.out.below hb10.out)
          have HSB := Lib.hid (HS8.out.below hb10.out)
          have HSD := Lib.hid (hs9.out.below hb10.out)
          have HSW := Lib.hid hs10.out
          clear HP9 HS8 hb10 hs9 hs10 G
          have HR := Lib.hid HP10.out.q
          have HBE := Lib.hid HP10.out.bel
          clear HP10
          obtain ⟨ab, cb, hvb⟩ : ∃ ao c, vb = .slice ao C.L.length c := by obtain ⟨ao, c, h, _⟩ := HSB.out; exact ⟨ao, c, by rw [h, keys_len]⟩
          obtain ⟨ad, cd, hvd⟩ : ∃ ao c, vd = .slice ao C.dirty.length c := by obtain ⟨ao, c, h, _⟩ := HSD.out; exact ⟨ao, c, h⟩
          obtain ⟨aw, cw, hvw⟩ : ∃ ao c, vw = .slice ao C.dirty.length c := by obtain ⟨ao, c, h, _⟩ := HSW.out; exact ⟨ao, c, h⟩
          obtain ⟨a2, c2, hv2⟩ := own_shape (R3.hr HR.out)
          subst hvb hvd hvw hv2
          have HR0 : Hid (∀ W, Below w10.heap.size w10 W → W.cell? ⟨p2, 0, none⟩ = some (.slice a2 C.L.length c2)) := fun W hW => (R3.below HR.out hW).c0
          have HR1 : Hid (∀ W, Below w10.heap.size w10 W → ∀ k (hk : k < C.L.length), ∃ g, a2 = some ⟨g, 0, none⟩ ∧ W.cell? ⟨g, k * 4, none⟩ = some (.int .i64 C.L[k].key)) := fun W hW k hk => by
            obtain ⟨g, e1, e2, _⟩ := R3.at (R3.below HR.out hW) hk
            exact ⟨g, e1, e2⟩
          have HB1 : Hid (∀ W, Below w10.heap.size w10 W → ∀ k (hk : k < C.L.length), ∃ g, ab = some ⟨g, 0, none⟩ ∧ W.cell? ⟨g, k, none⟩ = some (.int .i64 C.L[k].key)) := fun W hW k hk => by
            obtain ⟨g, e1, _, e2⟩ := (HSB.out.below hW).at (i := k) (by rw [keys_len]; exact hk)
            refine ⟨g, e1, e2.trans ?_⟩
            unfold keys
            rw [List.getElem_map]
          have c0 := HR0.out _ (Below.refl _ _)
          generalize C.dirty = DD at *
          obtain ⟨m, hm⟩ : ∃ m, DD.length = m := ⟨_, rfl⟩
          obtain ⟨nn, hnn⟩ : ∃ m, C.L.length = m := ⟨_, rfl⟩
          have HM := Lib.hid hm; have HNN := Lib.hid hnn
          rw [hm] at hdl ⊢
          rw [hnn] at hnl c0 HR0 ⊢
          clear hm hnn HR HOK
          have b1 : ((nn : Int) != (nn : Int)) = false := by simp
          have b2 : ((m : Int) != (m : Int)) = false := by simp
          go_wp2_with fail
          go_loopw [23] (fun kv wr => ∃ k : Nat, k ≤ nn ∧ kv = .int .i64 (k : Int) ∧ Hid (Below w10.heap.size w10 wr)) (fun kv _ => nn - (intOf kv).toNat)
          case atStart => exact ⟨0, Nat.zero_le _, rfl, (show Below _ _ _ from Below.refl _ _)⟩
          case round =>
            obtain ⟨k, hk, rfl, HB⟩ := hrel
            by_cases hlt2 : k < nn
            · have hkz2 : (k : Int) < (nn : Int) := by omega
              have hkP : k < C.L.length := by rw [HNN.out]; exact hlt2
              obtain ⟨gr, rfl, x0⟩ := HR1.out _ HB.out k hkP
              obtain ⟨gb, rfl, y0⟩ := HB1.out _ HB.out k hkP
              have c0' := HR0.out _ HB.out
              generalize C.L[k].key = x at *
              clear hkP HR1 HB1
              have b3 : (x != x) = false := by simp
              go_wp2_with fail
              go_quiet (fail)
              have HBn : Hid (Below w10.heap.size w10 (wr.drewN nq)) := below_drewN HB.out _
              go_wp2
              go_roundw
              case rel => exact ⟨k + 1, by omega, by go_num, HBn⟩
              case measure => simp [intOf]; omega
            · have hkz2 : ¬ (k : Int) < (nn : Int) := by omega
              obtain rfl : k = nn := by omega
              clear HR1 HB1 HR0
              go_wp2_with fail
              go_loopw [24] (fun kv wr2 => ∃ k : Nat, k ≤ m ∧ kv = .int .i64 (k : Int) ∧ Hid (Below w10.heap.size w10 wr2)) (fun kv _ => m - (intOf kv).toNat)
              case atStart => exact ⟨0, Nat.zero_le _, rfl, HB⟩
              case round =>
                clear HB
                obtain ⟨i, hi, rfl, HB⟩ := hrel
                by_cases hlt3 : i < m
                · have hiz : (i : Int) < (m : Int) := by omega
                  have hiD : i < DD.length := by rw [HM.out]; exact hlt3
                  have HSD2 := HSD.out.below HB.out
                  have HSW2 := HSW.out.below HB.out
                  rw [HM.out] at HSD2 HSW2
                  obtain ⟨gd, rfl, _, x0, x1⟩ := HSD2.at hiD
                  obtain ⟨gw, rfl, _, y0, y1⟩ := HSW2.at hiD
                  clear HSD2 HSW2
                  generalize DD[i] = x at *
                  clear hiD
                  obtain ⟨xb, xd⟩ := x
                  have b3 : (xb != xb) = false := by simp
                  have b4 : (xb == xb) = true := by simp
                  go_wp2_with fail
                  go_quiet (fail)
                  have HBn : Hid (Below w10.heap.size w10 (wr.drewN nq)) := below_drewN HB.out _
                  go_wp2
                  go_roundw
                  case rel => exact ⟨i + 1, by omega, by go_num, HBn⟩
                  case measure => simp [intOf]; omega
                · have hiz : ¬ (i : Int) < (m : Int) := by omega
                  have HF : Hid (Below w.heap.size w wr) := HBE.out.trans (HB.out.mono HBE.out.size)
                  go_wp2
                  go_ret
                  exact ⟨rfl, HF.out⟩
end Go.Proofs.Yteeoglfgilabaaa
