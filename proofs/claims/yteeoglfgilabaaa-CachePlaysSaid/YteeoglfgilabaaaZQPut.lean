/- The document's cache: what Put answers and leaves behind: the same as in plain lists. -/
import Derived.Test.YteeoglfgilabaaaZCTwo
import Derived.Deep.RegionLaw
import Derived.Test.YteeoglfgilabaaaZCSteps
import Derived.Deep.RegionHeld3
import Derived.Test.YteeoglfgilabaaaZWInv
import Derived.Test.YteeoglfgilabaaaZCInv

namespace Go.Proofs.Yteeoglfgilabaaa
open Go.RowKit

theorem setRow_heap {w : World} {g : Nat} {old : Array Value} {t : TypeId} {fz : Nat × Nat} (h : w.heap[g]? = some (.cells old t fz)) (cs : Array Value) : (w.setRow g cs).heap[g]? = some (.cells cs t fz) := by
  simp [World.setRow, Array.getElem?_modify, h]
theorem setRow_only (w : World) (g : Nat) (cs : Array Value) : Only (fun b => b = g) w (w.setRow g cs) :=
  ⟨rfl, rfl, rfl, by simp [World.setRow], fun k hk hne => by simp [World.setRow, Array.getElem?_modify, Ne.symm hne]⟩
section
variable {w w1 : World} {p : Nat} {v : Value} {C : CS} {L : List Kp} {m mi : Int}
set_option maxRecDepth 100000 in
set_option maxHeartbeats 2000000 in
theorem qput_any (i : Int) (t : ByteArray) (ht : t.size ≤ 1000000) (h : RQ w p v C) (ok : C.Ok) : Calls Try.prog 30 #[.pointer (some ⟨p, 0, none⟩), .int .i64 i, .string t] w fun e w' => e = .returned (.int .i64 (C.put i t).1) ∧ QC w w' p v (C.put i t).2 := by
  obtain ⟨i0, hi, hz0, hz1, hz2⟩ := info_parts Try.infoK
  clear hz2 hz0
  have H := Lib.hid h
  by_cases hz : t.size ≠ 256
  · have e : C.put i t = (3, C) := by unfold CS.put; rw [if_pos hz]
    rw [e]
    have hne : ((t.size : Int) != 256) = true := by simp; omega
    have HQ : Hid (QC w w p v C) := QL.refl H.out
    clear h ok e hz
    go_enter Try.func30, Try.ntmps30
    go_wp2
    go_ret
    exact ⟨rfl, HQ.out⟩
  · have hne : ((t.size : Int) != 256) = false := by simp; omega
    obtain ⟨X, hX⟩ : ∃ X, w.alloc (.cells #[.int .i64 i, .string ⟨#[]⟩, .bool false, .int .i64 0] 48) = X := ⟨_, rfl⟩
    have hbX : Below w.heap.size w X := by rw [← hX]; exact (Below.refl _ _).alloc (Nat.le_refl _) _
    have hXh : X.heap[w.heap.size]? = some (.cells #[.int .i64 i, .string ⟨#[]⟩, .bool false, .int .i64 0] 48 (0, 0)) := by rw [← hX]; exact heap_alloc_new ..
    have hXl : w.heap.size < X.heap.size := (Array.getElem?_eq_some_iff.1 hXh).1
    have hRX : RQ X p v C := R3.below h hbX
    have CF := Lib.hid (qfind_any i hRX (ok_short ok))
    have hpl := R3.lt h
    have HOw := Lib.hid (R3.own_lt h)
    have HX := Lib.hid hX; have HXH := Lib.hid hXh
    have HBX : Hid (Only (fun b => b = p ∨ v.ownBlock = some b) w X) := Only.of_below _ hbX (Nat.le_refl _)
    have HKeep : Hid (∀ W, Only (fun b => b = p ∨ v.ownBlock = some b) X W → W.heap[w.heap.size]? = some (.cells #[.int .i64 i, .string ⟨#[]⟩, .bool false, .int .i64 0] 48 (0, 0))) := fun W hW => by
      rw [hW.block _ hXl (fun hk => by
        rcases hk with hk | hk
        · omega
        · have := HOw.out _ hk; omega)]
      exact hXh
    obtain ⟨b0, hb0⟩ : ∃ b, w.heap.size = b := ⟨_, rfl⟩
    rw [hb0] at HKeep hXl
    have HB0 := Lib.hid hb0
    have hpb : p < b0 := by omega
    unfold pos6 at CF
    cases hf : fx C.L i with
    | some ky =>
      obtain ⟨k, y⟩ := ky
      obtain ⟨hk, hy, hkey, hrest⟩ := fx_some hf
      have e : C.put i t = (0, { C with L := { y with data := t, dirty := true } :: C.L.eraseIdx k }) := by unfold CS.put; rw [if_neg hz, hf]
      rw [e]
      rw [hf] at CF
      simp only at CF
      have CT : Hid (Calls Try.prog 47 #[.pointer (some ⟨p, 0, none⟩), .int .i64 (k : Int)] X fun e w' => e = .returned (.agg #[.int .i64 y.key, .string y.data, .bool y.dirty, .int .i64 (y.pins : Int)]) ∧ QL X w' p v (C.L.eraseIdx k) (C.most : Int) (C.misses : Int)) := by
        have := qtake_any k hk hRX (ok_short ok)
        rw [hy] at this
        exact this
      have hkz2 : (0 : Int) ≤ (k : Int) := by omega
      have hkz : ¬ ((k : Int) < 0) := by omega
      have HLe : Hid ((C.L.eraseIdx k).length ≤ 4000) := by show _ ≤ _; rw [List.length_eraseIdx]; have := ok_short ok; split <;> omega
      clear h hf e hrest hkey hy ok hRX hz hX hXh hbX hb0
      obtain ⟨xk, xd, xb, xp⟩ := y
      simp only at CT
      go_enter Try.func30, Try.ntmps30
      go_wp2_with fail
      rw [HX.out, HB0.out]
      refine CF.out.mono ?_
      rintro e w1 ⟨rfl, rfl⟩
      go_wp2_with fail
      refine CT.out.mono ?_
      rintro e w2 ⟨rfl, v2, h2, hown2, hon2⟩
      have hBh := HKeep.out _ hon2
      have CQ : Hid (∀ Z, Only (fun b => b = b0) w2 Z → Calls Try.prog 49 #[.pointer (some ⟨p, 0, none⟩), .agg #[.int .i64 xk, .string t, .bool true, .int .i64 (xp : Int)]] Z fun e w' => e = .returned (.tuple #[]) ∧ Hid (QC w w' p v { C with L := ⟨xk, t, true, xp⟩ :: C.L.eraseIdx k })) := fun Z hZ => by
        have hne2 : ∀ q, v2.ownBlock = some q → q ≠ b0 := fun q hq e => by
          rcases hown2 q hq with h1 | h1
          · have := HOw.out q h1; have := HB0.out; omega
          · omega
        have h3 := h2.kept hZ (by omega) hne2
        refine (qfirst_any ⟨xk, t, true, xp⟩ h3 HLe.out).mono fun e w' ⟨he, hq⟩ => ⟨he, ?_⟩
        have hZ2 : Only (fun b => b = p ∨ v.ownBlock = some b) w Z := (HBX.out.trans hon2 (fun _ _ h => h)).trans hZ (fun q hq e => by have := HB0.out; omega)
        refine QL.next (w1 := Z) (v1 := v2) (fun q hq2 => ?_) hZ2 hq
        rcases hown2 q hq2 with h1 | h1
        · exact .inl h1
        · exact .inr (by have := HB0.out; omega)
      clear h2 hown2 hon2 CF CT HKeep HXH
      have hYh := setRow_heap hBh #[.int .i64 xk, .string xd, .bool xb, .int .i64 (xp : Int)]
      have hYo : Only (fun b => b = b0) w2 (w2.setRow b0 #[.int .i64 xk, .string xd, .bool xb, .int .i64 (xp : Int)]) := setRow_only w2 b0 _
      rename_i aK
      refine aK _ _ ?_
      refine wpList_store_row rfl 48 (.tmp 7) (.tmp 22) rfl b0 #[.int .i64 xk, .string xd, .bool xb, .int .i64 (xp : Int)] rfl rfl 48 #[.int .i64 i, .string ⟨#[]⟩, .bool false, .int .i64 0] hBh (by rw [hi]; simp [hz1]) rfl (by simp [Value.oneCell']) ?_
      obtain ⟨Y, hY⟩ : ∃ Y, w2.setRow b0 #[.int .i64 xk, .string xd, .bool xb, .int .i64 (xp : Int)] = Y := ⟨_, rfl⟩
      rw [hY] at hYh hYo ⊢
      have HYO := Lib.hid hYo
      have d0 : Y.cell? ⟨b0, 0, none⟩ = some (.int .i64 xk) := by rw [cell_at hYh]; rfl
      have d1 : Y.cell? ⟨b0, 1, none⟩ = some (.string xd) := by rw [cell_at hYh]; rfl
      have d2 : Y.cell? ⟨b0, 2, none⟩ = some (.bool xb) := by rw [cell_at hYh]; rfl
      have d3 : Y.cell? ⟨b0, 3, none⟩ = some (.int .i64 (xp : Int)) := by rw [cell_at hYh]; rfl
      have g0 := free_at hYh 0; have g1 := free_at hYh 1; have g2 := free_at hYh 2; have g3 := free_at hYh 3
      clear hY hYh hYo hBh aK
      go_wp2_with fail
      refine (CQ.out _ ?_).mono ?_
      · exact (HYO.out.setCell (p := ⟨b0, 1, none⟩) (fun _ => rfl) _).setCell (p := ⟨b0, 2, none⟩) (fun _ => rfl) _
      rintro e w3 ⟨rfl, hq3⟩
      go_wp2
      go_ret
      exact ⟨rfl, hq3.out⟩
    | none =>
      rw [hf] at CF
      simp only at CF
      have CR := qroom_any C.most hRX (ok_short ok) ok.pn
      cases hr : room C.L C.most with
      | none =>
        have e : C.put i t = (14, C) := by unfold CS.put; rw [if_neg hz, hf]; simp only; rw [hr]
        rw [e]
        rw [hr] at CR
        have CR := Lib.hid CR
        clear h hf hr ok e hRX hz hX hXh hbX hb0
        go_enter Try.func30, Try.ntmps30
        go_wp2_with fail
        rw [HX.out, HB0.out]
        refine CF.out.mono ?_
        rintro e w1 ⟨rfl, rfl⟩
        go_wp2_with fail
        refine CR.out.mono ?_
        rintro e w2 ⟨rfl, hq2⟩
        have HQ : Hid (QC w w2 p v C) := QL.next (fun _ => .inl) HBX.out hq2
        clear hq2 CR CF
        go_wp2
        go_ret
        exact ⟨rfl, HQ.out⟩
      | some M =>
        have e : C.put i t = (0, { C with L := ⟨i, t, true, 0⟩ :: M }) := by unfold CS.put; rw [if_neg hz, hf]; simp only; rw [hr]
        rw [e]
        rw [hr] at CR
        have CR := Lib.hid CR
        have HLM : Hid (M.length ≤ 4000) := by
          show _ ≤ _
          have h1 := ok_short ok
          unfold room at hr
          split at hr
          · cases hr; exact h1
          · obtain ⟨k, _, rfl⟩ := Option.map_eq_some_iff.1 hr
            rw [List.length_eraseIdx]; split <;> omega
        clear h hf hr ok e hRX hz hX hXh hbX hb0
        go_enter Try.func30, Try.ntmps30
        go_wp2_with fail
        rw [HX.out, HB0.out]
        refine CF.out.mono ?_
        rintro e w1 ⟨rfl, rfl⟩
        go_wp2_with fail
        refine CR.out.mono ?_
        rintro e w2 ⟨rfl, v2, h2, hown2, hon2⟩
        have hBh := HKeep.out _ hon2
        have d0 : w2.cell? ⟨b0, 0, none⟩ = some (.int .i64 i) := by rw [cell_at hBh]; rfl
        have d1 : w2.cell? ⟨b0, 1, none⟩ = some (.string ⟨#[]⟩) := by rw [cell_at hBh]; rfl
        have d2 : w2.cell? ⟨b0, 2, none⟩ = some (.bool false) := by rw [cell_at hBh]; rfl
        have d3 : w2.cell? ⟨b0, 3, none⟩ = some (.int .i64 0) := by rw [cell_at hBh]; rfl
        have g0 := free_at hBh 0; have g1 := free_at hBh 1; have g2 := free_at hBh 2; have g3 := free_at hBh 3
        have CQ : Hid (∀ Z, Only (fun b => b = b0) w2 Z → Calls Try.prog 49 #[.pointer (some ⟨p, 0, none⟩), .agg #[.int .i64 i, .string t, .bool true, .int .i64 0]] Z fun e w' => e = .returned (.tuple #[]) ∧ Hid (QC w w' p v { C with L := ⟨i, t, true, 0⟩ :: M })) := fun Z hZ => by
          have hne2 : ∀ q, v2.ownBlock = some q → q ≠ b0 := fun q hq e => by
            rcases hown2 q hq with h1 | h1
            · have := HOw.out q h1; have := HB0.out; omega
            · omega
          have h3 := h2.kept hZ (by omega) hne2
          refine (qfirst_any ⟨i, t, true, 0⟩ h3 HLM.out).mono fun e w' ⟨he, hq⟩ => ⟨he, ?_⟩
          have hZ2 : Only (fun b => b = p ∨ v.ownBlock = some b) w Z := (HBX.out.trans hon2 (fun _ _ h => h)).trans hZ (fun q hq e => by have := HB0.out; omega)
          refine QL.next (w1 := Z) (v1 := v2) (fun q hq2 => ?_) hZ2 hq
          rcases hown2 q hq2 with h1 | h1
          · exact .inl h1
          · exact .inr (by have := HB0.out; omega)
        clear h2 hown2 hon2 CF CR hBh HKeep HXH
        go_wp2_with fail
        refine (CQ.out _ ?_).mono ?_
        · exact ((Only.refl (fun b => b = b0) w2).setCell (p := ⟨b0, 1, none⟩) (fun _ => rfl) _).setCell (p := ⟨b0, 2, none⟩) (fun _ => rfl) _
        rintro e w3 ⟨rfl, hq3⟩
        go_wp2
        go_ret
        exact ⟨rfl, hq3.out⟩
end
end Go.Proofs.Yteeoglfgilabaaa
/- The document's cache: what Drop and New answer and leave behind: the same as in plain lists. -/
namespace Go.Proofs.Yteeoglfgilabaaa
open Go.RowKit

section
variable {w w1 : World} {p cap : Nat} {ao : Option Addr} {v : Value} {C : CS} {L : List Kp} {m mi : Int}
theorem R3.at (h : R3 w p (.slice ao L.length cap) L m mi) {k : Nat} (hk : k < L.length) : ∃ g, ao = some ⟨g, 0, none⟩ ∧ w.cell? ⟨g, k * 4, none⟩ = some (.int .i64 L[k].key) ∧ w.cell? ⟨g, k * 4 + 1, none⟩ = some (.string L[k].data) ∧ w.cell? ⟨g, k * 4 + 2, none⟩ = some (.bool L[k].dirty) ∧ w.cell? ⟨g, k * 4 + 3, none⟩ = some (.int .i64 (L[k].pins : Int)) := by
  obtain ⟨g, cap', hv, _, _, _, _, hc⟩ := h.row (by omega)
  obtain ⟨rfl, _⟩ : ao = some ⟨g, 0, none⟩ ∧ cap = cap' := by simpa using hv
  exact ⟨g, rfl, hc k hk⟩
theorem four_cells {w : World} {g : Nat} {cs : Array Value} {t : TypeId} {fz : Nat × Nat} (h : w.heap[g]? = some (.cells cs t fz)) : ∀ j u, cs.toList[j]? = some u → w.cell? ((⟨g, 0, none⟩ : Addr).add j) = some u := by
  intro j u hu
  have hadd : (⟨g, 0, none⟩ : Addr).add j = ⟨g, j, none⟩ := by unfold Addr.add; split <;> simp_all
  rw [hadd, cell_at h]
  simpa using hu
theorem filter_step (L : List Kp) (k : Nat) (hk : k < L.length) : (L.take (k + 1)).filter (fun x => !x.dirty) = (L.take k).filter (fun x => !x.dirty) ++ (if L[k].dirty then [] else [L[k]]) := by
  rw [List.take_succ_eq_append_getElem hk, List.filter_append]
  congr 1
  cases h : L[k].dirty <;> simp [h]

set_option maxRecDepth 100000 in
set_option maxHeartbeats 2000000 in
theorem qdrop_any (h : RQ w p v C) (ok : C.Ok) : Calls Try.prog 34 #[.pointer (some ⟨p, 0, none⟩)] w fun e w' => e = .returned (.tuple #[]) ∧ QC w w' p v C.drop := by
  obtain ⟨i0, hi, hz0, hz1, hz2⟩ := info_parts Try.infoK
  have HZ2 := Lib.hid hz2
  clear hz2
  have hms := ok_short ok
  have hpl := R3.lt h
  have HOw := Lib.hid (R3.own_lt h)
  obtain ⟨ao, cap, hv⟩ := own_shape (R3.hr h)
  subst hv
  obtain ⟨n, hn⟩ : ∃ n, C.L.length = n := ⟨_, rfl⟩
  have HN := Lib.hid hn
  have HAt : Hid (∀ W, Below w.heap.size w W → ∀ k (hk : k < C.L.length), ∃ g, ao = some ⟨g, 0, none⟩ ∧ W.cell? ⟨g, k * 4, none⟩ = some (.int .i64 C.L[k].key) ∧ W.cell? ⟨g, k * 4 + 1, none⟩ = some (.string C.L[k].data) ∧ W.cell? ⟨g, k * 4 + 2, none⟩ = some (.bool C.L[k].dirty) ∧ W.cell? ⟨g, k * 4 + 3, none⟩ = some (.int .i64 (C.L[k].pins : Int))) := fun W hW k hk => R3.at (R3.below h hW) hk
  have HC0 : Hid (∀ W, Below w.heap.size w W → W.cell? ⟨p, 0, none⟩ = some (.slice ao C.L.length cap) ∧ W.frozen? ⟨p, 0, none⟩ = false) := fun W hW => ⟨(R3.below h hW).c0, (R3.below h hW).f 0⟩
  have HFin : Hid (∀ W v2, Below w.heap.size w W → W.ownsRow 0 48 4 v2 (C.drop.L).length (flatQ C.drop.L) → (∀ q, v2.ownBlock = some q → w.heap.size ≤ q) → QC w (W.setCell ⟨p, 0, none⟩ v2) p (.slice ao C.L.length cap) C.drop) := fun W v2 hW hr hg => by
    have hW' := R3.below h hW
    have hne : v2.ownBlock ≠ some p := fun e => by have := hg p e; omega
    exact ⟨v2, ⟨by rw [heap_setCell_at hW'.hp]; rfl, ownsRow_setCell_other hr (by simpa using hne) _, hne⟩, fun q hq => .inr (hg q hq), ((Only.of_below (fun b => b = p) hW (Nat.le_refl _)).setCell (p := ⟨p, 0, none⟩) (fun _ => rfl) _).mono (fun _ _ h => .inl h)⟩
  have HDr : Hid (C.drop.L = (C.L.take n).filter (fun x => !x.dirty)) := by show _ = _; rw [← hn, List.take_length]; rfl
  rw [hn] at hms HC0 HFin ⊢
  clear h ok hn
  go_enter Try.func34, Try.ntmps34
  go_wp2_with fail
  go_loopw [2, 3] (fun lv t wr => ∃ k : Nat, k ≤ n ∧ t = .int .i64 (k : Int) ∧ Hid (Below w.heap.size w wr) ∧ Hid (wr.ownsRow w.heap.size 48 4 lv ((C.L.take k).filter (fun x => !x.dirty)).length (flatQ ((C.L.take k).filter (fun x => !x.dirty))))) (fun _ t _ => n - (intOf t).toNat)
  case atStart => exact ⟨0, Nat.zero_le _, rfl, (show Below _ _ _ from Below.refl _ _), ⟨rfl, .inl ⟨rfl, rfl⟩⟩⟩
  case round =>
    obtain ⟨k, hk, rfl, HB, HO⟩ := hrel
    obtain ⟨c0, f0⟩ := HC0.out _ HB.out
    have hml : ((C.L.take k).filter (fun x => !x.dirty)).length ≤ 4000 := by have := List.length_filter_le (fun x : Kp => !x.dirty) (C.L.take k); rw [List.length_take] at this; omega
    have hbr := HB.out.size
    by_cases hlt : k < n
    · have hkL : k < C.L.length := by rw [HN.out]; exact hlt
      have hkz : (k : Int) < (n : Int) := by omega
      obtain ⟨g, rfl, x0, x1, x2, x3⟩ := HAt.out _ HB.out k hkL
      have HS := Lib.hid (filter_step C.L k hkL)
      have HEx : Hid (flatQ [C.L[k]] = [.int .i64 C.L[k].key, .string C.L[k].data, .bool C.L[k].dirty, .int .i64 (C.L[k].pins : Int)]) := rfl
      generalize C.L[k] = x at *
      clear hkL
      obtain ⟨xk, xd, xb, xp⟩ := x
      simp only at x0 x1 x2 x3 HEx
      generalize hM : (C.L.take k).filter (fun x => !x.dirty) = M at *
      clear hM
      cases xb
      · have HS2 : Hid ((C.L.take (k + 1)).filter (fun x => !x.dirty) = M ++ [⟨xk, xd, false, xp⟩]) := HS.out
        clear HS
        go_wp2_with (at_builtin; refine wpList_append_own _ rfl _ _ 40 rfl w.heap.size 48 i0 _ 4 40 Try.underlying40 hi hz0 hz1 HZ2.out rfl (by decide) _ _ _ rfl (HO.out.alloc _) _ 1 1 [.int .i64 xk, .string xd, .bool false, .int .i64 (xp : Int)] rfl rfl ?c1 ?c2 ?c3 ?c4 ?c5 ?_)
        case c1 => exact four_cells (heap_alloc_new wr (.cells #[.int .i64 xk, .string xd, .bool false, .int .i64 (xp : Int)] 48))
        case c2 =>
          intro u hu
          simp only [List.mem_cons, List.not_mem_nil, or_false] at hu
          rcases hu with rfl | rfl | rfl | rfl <;> rfl
        case c3 => unfold maxLen; omega
        case c4 => omega
        case c5 => simp; omega
        intro v1 w1 hown hgrow _
        have HO1 : Hid (w1.ownsRow w.heap.size 48 4 v1 ((C.L.take (k + 1)).filter (fun x => !x.dirty)).length (flatQ ((C.L.take (k + 1)).filter (fun x => !x.dirty)))) := by
          show World.ownsRow _ _ _ _ _ _ _
          rw [HS2.out, flatQ_append, List.length_append]
          exact hown
        have HB1 : Hid (Below w.heap.size w w1) := (HB.out.alloc hbr _).grown hgrow (by simp; omega) (fun q hq => (HO.out.lt q hq).1)
        clear hown hgrow
        go_wp2
        go_roundw
        case rel => exact ⟨k + 1, by omega, by go_num, HB1, HO1⟩
        case measure => simp [intOf]; omega
      · have HS2 : Hid ((C.L.take (k + 1)).filter (fun x => !x.dirty) = M) := by show _ = _; have := HS.out; simpa using this
        clear HS
        go_wp2
        go_roundw
        case rel => exact ⟨k + 1, by omega, by go_num, HB, by show World.ownsRow _ _ _ _ _ _ _; rw [HS2.out]; exact HO.out⟩
        case measure => simp [intOf]; omega
    · obtain rfl : k = n := by omega
      have hkz : ¬ (k : Int) < (k : Int) := by omega
      have HF := HFin.out wr u2 HB.out
      rw [HDr.out] at HF
      have HF2 : Hid (QC w (wr.setCell ⟨p, 0, none⟩ u2) p (.slice ao k cap) C.drop) := HF ⟨HO.out.1, by
        rcases HO.out.2 with hn | ⟨g, c, cur, h1, h2, h3⟩
        · exact .inl hn
        · exact .inr ⟨g, c, cur, h1, Nat.zero_le _, h3⟩⟩ (fun q hq => (HO.out.lt q hq).1)
      obtain ⟨ao9, c9, hl9⟩ := own_shape HO.out
      subst hl9
      clear HF
      go_wp2
      go_end0
      exact ⟨rfl, HF2.out⟩
end
end Go.Proofs.Yteeoglfgilabaaa
/- The document's side of an act: what model answers and leaves behind: the same as in plain lists. -/
namespace Go.Proofs.Yteeoglfgilabaaa
open Go.RowKit

section
variable {w w1 : World} {p : Nat} {v : Value} {C C' : CS}
theorem QC.after (hb : Below w.heap.size w w1) {w2 : World} (h : QC w1 w2 p v C) : QC w w2 p v C := QL.next (fun _ => .inl) (Only.of_below _ hb (Nat.le_refl _)) h

set_option maxRecDepth 100000 in
set_option maxHeartbeats 1000000 in
theorem model_get (a : Act6) (ha : a.Ok) (hq : a.q < 4) (h : RQ w p v C) (ok : C.Ok) :
    Calls Try.prog 14 #[.pointer (some ⟨p, 0, none⟩), .agg #[.int .i64 a.op, .int .i64 a.at_, .int .u8 a.b, .bool a.bad]] w fun e w' => e = .returned (.tuple #[.string (C.get a.i (told a.i) (toldE a.i)).1.1, .int .i64 (C.get a.i (told a.i) (toldE a.i)).1.2]) ∧ QC w w' p v (C.get a.i (told a.i) (toldE a.i)).2 := by
  obtain ⟨X, hX, hx, hb, hlt⟩ := act_new w a
  have HP := pickA a ha
  have HA := atA a ha
  have HG : Hid (∀ W, Below w.heap.size w W → Calls Try.prog 35 #[.pointer (some ⟨p, 0, none⟩), .int .i64 a.i, .string (told a.i), .int .i64 (toldE a.i)] W fun e w' => e = .returned (.tuple #[.string (C.get a.i (told a.i) (toldE a.i)).1.1, .int .i64 (C.get a.i (told a.i) (toldE a.i)).1.2]) ∧ QC W w' p v (C.get a.i (told a.i) (toldE a.i)).2) := fun W hW => qget_any a.i (told a.i) (toldE a.i) (R3.below h hW) ok
  have HB := Lib.hid hb
  have h0 := a.q_lt
  have HXX : Hid (∀ W, Below X.heap.size X W → HeldX w.heap.size a W) := fun W hW => hx.below hW hlt
  clear hb ha h ok
  generalize a.q = q at *
  generalize C.get a.i (told a.i) (toldE a.i) = R at *
  have HRd : Hid (∀ W v, v = .agg #[] → Calls Try.prog 21 #[v, .int .i64 a.i] W fun e w' => e = .returned (.tuple #[.string (told a.i), .int .i64 (toldE a.i)]) ∧ Below W.heap.size W w') := fun W v hv => read_any a.i W v hv
  generalize told a.i = td at *
  generalize toldE a.i = te at *
  generalize a.i = i at *
  obtain ⟨c0, c1, c2, c3⟩ := hx
  have n4 : (q == 4) = false := by simp; omega
  have n5 : (q == 5) = false := by simp; omega
  have n6 : (q == 6) = false := by simp; omega
  have n7 : (q == 7) = false := by simp; omega
  have n8 : (q == 8) = false := by simp; omega
  have n9 : (q == 9) = false := by simp; omega
  clear hq h0
  go_enter Try.func14, Try.ntmps14
  go_wp2_with fail
  refine (HP.out _).mono ?_
  rintro e w1 ⟨rfl, rfl⟩
  go_wp2_with fail
  refine (HA.out _).mono ?_
  rintro e w2 ⟨rfl, hb2⟩
  go_wp2_with fail
  refine (HRd.out _ _ rfl).mono ?_
  rintro e w3 ⟨rfl, hb3⟩
  have HB3 : Hid (Below X.heap.size X w3) := hb2.out.trans (hb3.mono hb2.out.size)
  clear hb2 hb3 c0 c1 c2 c3
  obtain ⟨c0, c1, c2, c3⟩ := HXX.out w3 HB3.out
  go_wp2_with fail
  refine (HA.out _).mono ?_
  rintro e w4 ⟨rfl, hb4⟩
  have HB4 : Hid (Below w.heap.size w w4) := HB.out.trans ((HB3.out.trans (hb4.out.mono HB3.out.size)).mono HB.out.size)
  have HG4 := Lib.hid (HG.out w4 HB4.out)
  clear hb4 HG
  go_wp2_with fail
  refine HG4.out.mono ?_
  rintro e w5 ⟨rfl, hq5⟩
  have HQ : Hid (QC w w5 p v R.2) := hq5.after HB4.out
  clear hq5 HG4
  go_wp2
  go_ret2
  exact ⟨rfl, HQ.out⟩

set_option maxRecDepth 100000 in
set_option maxHeartbeats 1000000 in
theorem model_pins (a : Act6) (ha : a.Ok) (hq : a.q = 6 ∨ a.q = 7) (h : RQ w p v C) (ok : C.Ok) :
    Calls Try.prog 14 #[.pointer (some ⟨p, 0, none⟩), .agg #[.int .i64 a.op, .int .i64 a.at_, .int .u8 a.b, .bool a.bad]] w fun e w' => e = .returned (.tuple #[.string ⟨#[]⟩, .int .i64 (if a.q = 6 then C.pin a.i else C.unpin a.i).1]) ∧ QC w w' p v (if a.q = 6 then C.pin a.i else C.unpin a.i).2 := by
  obtain ⟨X, hX, hx, hb, hlt⟩ := act_new w a
  have HP := pickA a ha
  have HA := atA a ha
  have HG1 : Hid (∀ W, Below w.heap.size w W → Calls Try.prog 31 #[.pointer (some ⟨p, 0, none⟩), .int .i64 a.i] W fun e w' => e = .returned (.int .i64 (C.pin a.i).1) ∧ QC W w' p v (C.pin a.i).2) := fun W hW => qpin_any a.i (R3.below h hW) ok
  have HG2 : Hid (∀ W, Below w.heap.size w W → Calls Try.prog 32 #[.pointer (some ⟨p, 0, none⟩), .int .i64 a.i] W fun e w' => e = .returned (.int .i64 (C.unpin a.i).1) ∧ QC W w' p v (C.unpin a.i).2) := fun W hW => qunpin_any a.i (R3.below h hW) ok
  have HB := Lib.hid hb
  clear hb ha h ok
  generalize a.q = q at *
  generalize C.pin a.i = R1 at *
  generalize C.unpin a.i = R2 at *
  generalize a.i = i at *
  obtain ⟨c0, c1, c2, c3⟩ := hx
  rcases hq with rfl | rfl
  · rw [if_pos rfl]
    go_enter Try.func14, Try.ntmps14
    go_wp2_with fail
    refine (HP.out _).mono ?_
    rintro e w1 ⟨rfl, rfl⟩
    go_wp2_with fail
    refine (HA.out _).mono ?_
    rintro e w2 ⟨rfl, hb2⟩
    have HB2 : Hid (Below w.heap.size w w2) := HB.out.trans (hb2.out.mono HB.out.size)
    have HG := Lib.hid (HG1.out w2 HB2.out)
    clear hb2 HG1 HG2
    go_wp2_with fail
    refine HG.out.mono ?_
    rintro e w5 ⟨rfl, hq5⟩
    have HQ : Hid (QC w w5 p v R1.2) := hq5.after HB2.out
    clear hq5 HG
    go_wp2
    go_ret2
    exact ⟨rfl, HQ.out⟩
  · rw [if_neg (by omega)]
    go_enter Try.func14, Try.ntmps14
    go_wp2_with fail
    refine (HP.out _).mono ?_
    rintro e w1 ⟨rfl, rfl⟩
    go_wp2_with fail
    refine (HA.out _).mono ?_
    rintro e w2 ⟨rfl, hb2⟩
    have HB2 : Hid (Below w.heap.size w w2) := HB.out.trans (hb2.out.mono HB.out.size)
    have HG := Lib.hid (HG2.out w2 HB2.out)
    clear hb2 HG1 HG2
    go_wp2_with fail
    refine HG.out.mono ?_
    rintro e w5 ⟨rfl, hq5⟩
    have HQ : Hid (QC w w5 p v R2.2) := hq5.after HB2.out
    clear hq5 HG
    go_wp2
    go_ret2
    exact ⟨rfl, HQ.out⟩

set_option maxRecDepth 100000 in
set_option maxHeartbeats 1000000 in
theorem model_clean (a : Act6) (ha : a.Ok) (hq : a.q = 8 ∨ a.q = 9) (h : RQ w p v C) (ok : C.Ok) :
    Calls Try.prog 14 #[.pointer (some ⟨p, 0, none⟩), .agg #[.int .i64 a.op, .int .i64 a.at_, .int .u8 a.b, .bool a.bad]] w fun e w' => e = .returned (.tuple #[.string ⟨#[]⟩, .int .i64 0]) ∧ QC w w' p v (if a.q = 8 then C.clean else C.drop) := by
  obtain ⟨X, hX, hx, hb, hlt⟩ := act_new w a
  have HP := pickA a ha
  have HG1 := Lib.hid (qclean_any (R3.below h hb) ok)
  have HG2 := Lib.hid (qdrop_any (R3.below h hb) ok)
  have HB := Lib.hid hb
  clear hb ha h ok
  generalize a.q = q at *
  obtain ⟨c0, c1, c2, c3⟩ := hx
  rcases hq with rfl | rfl
  · rw [if_pos rfl]
    go_enter Try.func14, Try.ntmps14
    go_wp2_with fail
    refine (HP.out _).mono ?_
    rintro e w1 ⟨rfl, rfl⟩
    go_wp2_with fail
    refine HG1.out.mono ?_
    rintro e w5 ⟨rfl, hq5⟩
    have HQ : Hid (QC w w5 p v C.clean) := hq5.after HB.out
    clear hq5 HG1 HG2
    go_wp2
    go_ret2
    exact ⟨rfl, HQ.out⟩
  · rw [if_neg (by omega)]
    go_enter Try.func14, Try.ntmps14
    go_wp2_with fail
    refine (HP.out _).mono ?_
    rintro e w1 ⟨rfl, rfl⟩
    go_wp2_with fail
    refine HG2.out.mono ?_
    rintro e w5 ⟨rfl, hq5⟩
    have HQ : Hid (QC w w5 p v C.drop) := hq5.after HB.out
    clear hq5 HG1 HG2
    go_wp2
    go_ret2
    exact ⟨rfl, HQ.out⟩

set_option maxRecDepth 100000 in
set_option maxHeartbeats 1000000 in
theorem model_put (a : Act6) (ha : a.Ok) (hq : a.q = 4 ∨ a.q = 5) (h : RQ w p v C) (ok : C.Ok) (hs : a.s.size ≤ 1000000) :
    Calls Try.prog 14 #[.pointer (some ⟨p, 0, none⟩), .agg #[.int .i64 a.op, .int .i64 a.at_, .int .u8 a.b, .bool a.bad]] w fun e w' => e = .returned (.tuple #[.string ⟨#[]⟩, .int .i64 (C.put a.i a.s).1]) ∧ QC w w' p v (C.put a.i a.s).2 := by
  obtain ⟨X, hX, hx, hb, hlt⟩ := act_new w a
  have HP := pickA a ha
  have HA := atA a ha
  have HD := dataA a
  have HG : Hid (∀ W, Below X.heap.size X W → Calls Try.prog 30 #[.pointer (some ⟨p, 0, none⟩), .int .i64 a.i, .string a.s] W fun e w' => e = .returned (.int .i64 (C.put a.i a.s).1) ∧ Hid (QC w w' p v (C.put a.i a.s).2) ∧ HeldX w.heap.size a w') := by
    intro W hW
    have hw : Below w.heap.size w W := hb.trans (hW.mono hb.size)
    have hx' : HeldX w.heap.size a W := hx.below hW hlt
    refine (qput_any a.i a.s hs (R3.below h hw) ok).mono fun e w' ⟨he, hq⟩ => ⟨he, QC.after hw hq, ?_⟩
    obtain ⟨_, _, _, ho⟩ := hq
    have hpl := R3.lt h
    have hn : ¬ (w.heap.size = p ∨ v.ownBlock = some w.heap.size) := fun hk => by
      rcases hk with hk | hk
      · omega
      · have := R3.own_lt h _ hk; omega
    have hl2 : w.heap.size < W.heap.size := Nat.lt_of_lt_of_le hlt hW.size
    exact ⟨(ho.cell (p := ⟨w.heap.size, 0, none⟩) hl2 hn).trans hx'.1, (ho.cell (p := ⟨w.heap.size, 1, none⟩) hl2 hn).trans hx'.2.1, (ho.cell (p := ⟨w.heap.size, 2, none⟩) hl2 hn).trans hx'.2.2.1, (ho.cell (p := ⟨w.heap.size, 3, none⟩) hl2 hn).trans hx'.2.2.2⟩
  have HK : Hid (∀ W, Below X.heap.size X W → HeldX w.heap.size a W) := fun W hW => hx.below hW hlt
  obtain ⟨c0, c1, c2, c3⟩ := hx
  clear hb ha h hlt ok hs
  generalize C.put a.i a.s = R at *
  generalize a.i = i at *
  generalize a.s = s at *
  generalize a.q = q at *
  obtain ⟨op, at_, b, bad⟩ := a
  simp only at c0 c1 c2 c3 HP HA HD hX
  rcases hq with rfl | rfl
  all_goals
    go_enter Try.func14, Try.ntmps14
    go_wp2_with fail
    refine (HP.out _).mono ?_
    rintro e w1 ⟨rfl, rfl⟩
    go_wp2_with fail
    go_region_held3 (HeldX w.heap.size ⟨op, at_, b, bad⟩)
      (first | exact ⟨c0, c1, c2, c3⟩ | assumption)
      (first
        | (go_at_call 19; refine (HA.out _).mono ?_; rintro e w2 ⟨rfl, hb2'⟩; have hb2 : Hid (Below X.heap.size X w2) := below_pd hb2'.out; have hh2 := HK.out _ hb2.out; clear hb2')
        | (go_at_call 29; refine (HD.out _).mono ?_; rintro e w3 ⟨rfl, hb3'⟩; have hb3 : Hid (Below X.heap.size X w3) := hb2.out.trans (hb3'.out.mono hb2.out.size); have hh3 := HK.out _ hb3.out; have HG2 := Lib.hid (HG.out w3 hb3.out); clear hb3')
        | (go_at_call 30; refine HG2.out.mono ?_; rintro e w4 ⟨rfl, hl4, hh4⟩))
    all_goals
      go_wp2
      go_ret2
      exact ⟨rfl, hl4.out⟩
theorem Act6.s_size (a : Act6) : a.s.size ≤ 1000000 := by
  unfold Act6.s dataB
  split
  · decide
  · have := fl_size a.b; omega
/-- An act, whatever it is. -/
theorem model_any (a : Act6) (ha : a.Ok) (h : RQ w p v C) (ok : C.Ok) :
    Calls Try.prog 14 #[.pointer (some ⟨p, 0, none⟩), .agg #[.int .i64 a.op, .int .i64 a.at_, .int .u8 a.b, .bool a.bad]] w fun e w' => e = .returned (.tuple #[.string (C.does a).1.1, .int .i64 (C.does a).1.2]) ∧ QC w w' p v (C.does a).2 := by
  have hq := a.q_lt
  unfold CS.does
  by_cases q4 : a.q = 4 ∨ a.q = 5
  · rw [if_pos q4]; exact model_put a ha q4 h ok a.s_size
  · rw [if_neg q4]
    by_cases q6 : a.q = 6
    · rw [if_pos q6]
      have := model_pins a ha (.inl q6) h ok
      rw [if_pos q6] at this
      exact this
    · rw [if_neg q6]
      by_cases q7 : a.q = 7
      · rw [if_pos q7]
        have := model_pins a ha (.inr q7) h ok
        rw [if_neg q6] at this
        exact this
      · rw [if_neg q7]
        by_cases q8 : a.q = 8
        · rw [if_pos q8]
          have := model_clean a ha (.inl q8) h ok
          rw [if_pos q8] at this
          exact this
        · rw [if_neg q8]
          by_cases q9 : a.q = 9
          · rw [if_pos q9]
            have := model_clean a ha (.inr q9) h ok
            rw [if_neg q8] at this
            exact this
          · rw [if_neg q9]
            exact model_get a ha (by omega) h ok
end
end Go.Proofs.Yteeoglfgilabaaa
/- The walk of CacheDrops. -/
namespace Go.Proofs.Yteeoglfgilabaaa
open Go.RowKit

theorem new_one2 (q : Nat) (w0 w : World) {p1 : Nat} {C1 : CS} (h : Home w0 w p1 C1) (hq : q < 8) :
    Calls Try.prog 10 #[src0, .int .i64 (1 + (q : Int))] w fun e w' => ∃ p2, e = .returned (.tuple #[.pointer (some ⟨p2, 0, none⟩), .int .i64 0]) ∧ Hid (Two (fun _ => False) w0 w' p1 p2 C1 (CS.new (1 + q))) := by
  have := new_two_homes (1 + q) w0 w h (by omega) (by omega)
  rwa [Int.natCast_add] at this
theorem Acts6.held {w0 W : World} {L : List Act6} {g off n cap : Nat} (h : Acts6 w0 (.slice (some ⟨g, off, none⟩) n cap) L) (hW : Below w0.heap.size w0 W) (j : Nat) (hj : j < L.length) : HeldG g (off + j * 4) L[j] W := by
  obtain ⟨g', off', cap'', hv'', i0, i1, i2, i3⟩ := h.cell hW j hj
  obtain ⟨⟨rfl, rfl⟩, _, _⟩ : (g = g' ∧ off = off') ∧ n = L.length ∧ cap = cap'' := by simpa using hv''
  exact ⟨i0, i1, i2, i3⟩

theorem SlW.at {W : World} {ao : Option Addr} {n c : Nat} {L : List Wr} (h : SlW W (.slice ao n c) L) {i : Nat} (hi : i < L.length) : ∃ g, ao = some ⟨g, 0, none⟩ ∧ g < W.heap.size ∧ W.cell? ⟨g, i * 2, none⟩ = some (.int .i64 L[i].1) ∧ W.cell? ⟨g, i * 2 + 1, none⟩ = some (.string L[i].2) := by
  obtain ⟨ao', c', hv, h⟩ := h
  obtain ⟨rfl, _, rfl⟩ : ao = ao' ∧ n = L.length ∧ c = c' := by simpa using hv
  rcases h with h | ⟨g, e, hlt, hc⟩
  · subst h; simp at hi
  · exact ⟨g, e, hlt, hc i hi⟩
/-- What is kept of both caches, and whether a number is among it: as functions of where the cache lies. -/
theorem two_has {T : Nat → Prop} {w0 w8 : World} {p1 p2 : Nat} {C1 C2 : CS} {x : Int} (h : Two T w0 w8 p1 p2 C1 C2) (l1 : (keys C1.L).length ≤ 5000) (l2 : (keys C2.L).length ≤ 5000) (h1 : x ∉ keys C1.L) (h2 : x ∈ keys C2.L) :
    ∃ (Q : Nat → Prop) (hf : Nat → Bool) (kf : Nat → List Int), Q p1 ∧ Q p2 ∧ hf p1 = false ∧ hf p2 = true ∧
      Hid (∀ q, Q q → ∀ W, Below w8.heap.size w8 W → Calls Try.prog 16 #[.pointer (some ⟨q, 0, none⟩)] W fun e w' => ∃ v, e = .returned v ∧ Hid (SlI w' v (kf q)) ∧ Hid (Below w8.heap.size w8 w')) ∧
      Hid (∀ q, Q q → ∀ W v, SlI W v (kf q) → Calls Try.prog 24 #[v, .int .i64 x] W fun e w' => e = .returned (.bool (hf q)) ∧ W = w') := by
  have hne : p2 ≠ p1 := by
    obtain ⟨S1, S2, _, _, h3, _, ⟨_, _, h5⟩, ⟨_, _, h6⟩⟩ := h.ex
    exact fun e => h3 p1 h5.sp (e ▸ h6.sp)
  refine ⟨fun q => q = p1 ∨ q = p2, fun q => decide (x ∈ (if q = p1 then keys C1.L else keys C2.L)), fun q => if q = p1 then keys C1.L else keys C2.L, .inl rfl, .inr rfl, ?_, ?_, ?_, ?_⟩
  · simp only [if_pos]; exact decide_eq_false h1
  · simp only [if_neg hne]; exact decide_eq_true h2
  · intro q hq W hW
    rcases hq with rfl | rfl
    · refine (h.below hW).blocksL.mono fun e w' ⟨v, he, hs, hb⟩ => ⟨v, he, ?_, hW.trans (hb.out.mono hW.size)⟩
      show SlI w' v (if q = q then keys C1.L else keys C2.L)
      rw [if_pos rfl]; exact hs.out
    · refine (h.below hW).swap.blocksL.mono fun e w' ⟨v, he, hs, hb⟩ => ⟨v, he, ?_, hW.trans (hb.out.mono hW.size)⟩
      show SlI w' v (if q = p1 then keys C1.L else keys C2.L)
      rw [if_neg hne]; exact hs.out
  · intro q hq W v hv
    refine has_any _ x v W hv ?_
    show (if q = p1 then keys C1.L else keys C2.L).length ≤ 5000
    split
    · exact l1
    · exact l2

set_option maxRecDepth 100000 in
set_option maxHeartbeats 4000000 in
theorem drops_any (a0 : Int) (v1 : Value) (L : List Act6) (w : World) (h0 : -9223372036854775808 ≤ a0 ∧ a0 ≤ 9223372036854775807) (hA : Acts6 w v1 L) :
    Calls Try.prog 8 #[.int .i64 a0, v1] w fun e w' => e = .returned (.bool true) ∧ Below w.heap.size w w' := by
  have HS := Lib.hid (shown_any w)
  obtain ⟨ao, cap, hv⟩ : ∃ ao cap, v1 = .slice ao L.length cap := by obtain ⟨_, _, ao, cap, hv, _⟩ := hA; exact ⟨ao, cap, hv⟩
  have hlen := hA.2.1
  have HA := Lib.hid hA
  have HV := Lib.hid hv
  obtain ⟨n, hn⟩ : ∃ n, L.length = n := ⟨_, rfl⟩
  have HN := Lib.hid hn
  rw [hn] at hlen hv
  subst hv
  clear hn hA
  by_cases hl : 200 < n
  · have hlz : (200 : Int) < (n : Int) := by omega
    clear hl h0
    go_enter Try.func8, Try.ntmps8
    go_wp2_with fail
    refine HS.out.mono ?_
    rintro e w1 ⟨rfl, hb⟩
    go_wp2
    go_ret
    exact ⟨rfl, hb.out⟩
  · have hlz : ¬ (200 : Int) < (n : Int) := by omega
    obtain ⟨q, hq, hqe⟩ := many_nat 0 a0
    have HP0 : Hid (∀ W, Calls Try.prog 12 #[.int .i64 a0, .int .i64 8] W fun e w' => e = .returned (.int .i64 (q : Int)) ∧ W = w') := fun W => by rw [← hqe]; exact pick_any a0 8 W h0 (by omega)
    have HNEW : Hid (∀ W, Below w.heap.size w W → Calls Try.prog 10 #[src0, .int .i64 (1 + (q : Int))] W fun e w' => ∃ p, e = .returned (.tuple #[.pointer (some ⟨p, 0, none⟩), .int .i64 0]) ∧ Hid (Home w w' p (CS.new (1 + q)))) := fun W hW => new_one q w W hW hq
    have HQ := Lib.hid hq
    clear hqe h0 hl
    go_enter Try.func8, Try.ntmps8
    go_wp2_with fail
    refine HS.out.mono ?_
    rintro e w1 ⟨rfl, hb⟩
    go_wp2_with fail
    refine (HP0.out _).mono ?_
    rintro e w1' ⟨rfl, rfl⟩
    have G := Lib.hid (HNEW.out w1 hb.out)
    clear HNEW HP0 hb
    go_wp2_with fail
    refine G.out.mono ?_
    rintro e w2 ⟨p1, rfl, c0⟩
    clear G
    have G := Lib.hid (new_one2 q w w2 c0.out HQ.out)
    clear c0
    go_wp2_with fail
    refine G.out.mono ?_
    rintro e w3 ⟨p2, rfl, c0⟩
    clear G
    have HST := Lib.hid (Bd.new (1 + q))
    generalize CS.new (1 + q) = C0 at *
    go_wp2_with fail
    go_loopw [11] (fun iv wr => ∃ j : Nat, j ≤ n ∧ iv = .int .i64 (j : Int) ∧ Hid (∃ C, Two (fun _ => False) w wr p1 p2 C C ∧ Bd j C)) (fun iv _ => n - (intOf iv).toNat)
    case atStart => exact ⟨0, Nat.zero_le _, rfl, C0, c0.out, HST.out⟩
    case round =>
      obtain ⟨j, hj, rfl, HI⟩ := hrel
      obtain ⟨C, hC⟩ := HI.out
      have HC := Lib.hid hC
      clear hC HI c0 HST
      by_cases hlt : j < n
      · have hkz : (j : Int) < (n : Int) := by omega
        have hkL : j < L.length := by rw [HN.out]; exact hlt
        obtain ⟨g, off, cap', hv', d0, d1, d2, d3⟩ := HA.out.cell HC.out.1.bel j hkL
        obtain ⟨rfl, hnl, rfl⟩ : ao = some ⟨g, off, none⟩ ∧ n = L.length ∧ cap = cap' := by simpa using hv'
        have HAO := Lib.hid (HA.out.1 L[j] (List.getElem_mem hkL))
        have HD : Hid (∀ W, Below w.heap.size w W → HeldG g (off + j * 4) L[j] W) := fun W hW => HA.out.held hW j hkL
        clear hv' hnl
        generalize L[j] = A at *
        have G := Lib.hid (HC.out.1.left fun S hc => does_cch hc A HAO.out HC.out.2 (by omega))
        have HBD := Lib.hid HC.out.2
        go_wp2_with fail
        refine G.out.mono ?_
        rintro e w4 ⟨rfl, hh, _⟩
        clear G d0 d1 d2 d3
        obtain ⟨d0, d1, d2, d3⟩ := HD.out w4 hh.out.bel
        have G := Lib.hid (hh.out.right fun S hc => does_cch hc A HAO.out HBD.out (by omega))
        have HBD2 := Lib.hid (HBD.out.does A)
        generalize C.does A = R at *
        go_wp2_with fail
        refine G.out.mono ?_
        rintro e w5 ⟨rfl, hh2, _⟩
        go_wp2
        go_roundw
        case rel => exact ⟨j + 1, by omega, by go_num, R.2, hh2.out, HBD2.out⟩
        case measure => simp [intOf]; omega
      · have hkz : ¬ (j : Int) < (n : Int) := by omega
        have HTW := Lib.hid HC.out.1
        have HOK := Lib.hid HC.out.1.ok1
        have HMS : Hid (C.clean.misses < 1000000) := by show C.misses < _; have := HC.out.2.ms; omega
        have HDI := Lib.hid (drop_dirty C)
        have HCI := Lib.hid (clean_dirty C)
        have HG1 : Hid (∀ x ∈ C.dirty, x.1 ∉ keys C.drop.L) := fun x hx => dirty_gone HOK.out hx
        have HG2 : Hid (∀ x ∈ C.dirty, x.1 ∈ keys C.clean.L) := fun x hx => dirty_there hx
        have HTL := Lib.hid (tells_clean C)
        have HRG : Hid (∀ x ∈ C.dirty, -9223372036854775808 ≤ x.1 ∧ x.1 ≤ 9223372036854775807) := fun x hx => by
          obtain ⟨y, hy, _, rfl⟩ := dirty_mem hx
          exact HOK.out.wf y hy
        have HLD : Hid (C.dirty.length ≤ 5000) := by
          show _ ≤ _
          have h1 := C.dirty_perm.length_eq
          have h2 := dls_len C.L
          have := HOK.out.len; have := HOK.out.m1; omega
        have HL1 : Hid ((keys C.drop.L).length ≤ 5000) := by show _ ≤ _; rw [keys_len]; have := HOK.out.drop.len; have := HOK.out.drop.m1; omega
        have HL2 : Hid ((keys C.clean.L).length ≤ 5000) := by show _ ≤ _; rw [keys_len]; have := HOK.out.clean.len; have := HOK.out.clean.m1; omega
        have G := Lib.hid HC.out.1.dirtyL
        clear HC HA
        go_wp2_with fail
        refine G.out.mono ?_
        rintro e w4 ⟨v, rfl, hv, hb4, hge⟩
        have HT4 : Hid (Two (fun k => v.ownBlock = some k ∧ C.dirty ≠ []) w w4 p1 p2 C C) := HTW.out.keep hb4.out (fun k hk => ⟨hge.out k hk.1, hv.out.block hk.2 hk.1⟩)
        have HT : Hid (C.dirty ≠ [] → ∀ k, v.ownBlock = some k → (fun k => v.ownBlock = some k ∧ C.dirty ≠ []) k) := fun h k e => ⟨e, h⟩
        clear G hb4 hge HTW
        generalize (fun k => v.ownBlock = some k ∧ C.dirty ≠ []) = T at *
        generalize C.dirty = DD at *
        obtain ⟨aod, cd, hvd⟩ : ∃ ao c, v = .slice ao DD.length c := by obtain ⟨ao, c, h, _⟩ := hv.out; exact ⟨ao, c, h⟩
        obtain ⟨m, hm⟩ : ∃ m, DD.length = m := ⟨_, rfl⟩
        have HM := Lib.hid hm
        have HMl : m ≤ 5000 := by rw [← hm]; exact HLD.out
        rw [hm] at hvd
        subst hvd
        clear hm
        have G := Lib.hid (HT4.out.left fun S hc => drop_any hc)
        clear HT4
        go_wp2_with fail
        refine G.out.mono ?_
        rintro e w5 ⟨rfl, ht5, hk5⟩
        have hv5 := Lib.hid (hv.out.stand HT.out hk5.out.1 hk5.out.2)
        have G := Lib.hid (ht5.out.right fun S hc => clean_any hc)
        clear hv ht5 hk5
        go_wp2_with fail
        refine G.out.mono ?_
        rintro e w6 ⟨rfl, ht6, hk6⟩
        have hv6 := Lib.hid (hv5.out.stand HT.out hk6.out.1 hk6.out.2)
        have G := ht6.out.dirtyL
        rw [HDI.out] at G
        have G := Lib.hid G
        clear hv5 hk6
        go_wp2_with fail
        refine G.out.mono ?_
        rintro e w7 ⟨u, rfl, hu, hb7, _⟩
        obtain ⟨au, cu, hue⟩ : ∃ ao c, u = .slice ao 0 c := by obtain ⟨ao, c, h, _⟩ := hu.out; exact ⟨ao, c, h⟩
        subst hue
        have ht7 := Lib.hid (ht6.out.below hb7.out)
        have hv7 := Lib.hid (hv6.out.below hb7.out)
        have G := ht7.out.swap.dirtyL
        rw [HCI.out] at G
        have G := Lib.hid G
        clear hv6 ht6 hu hb7
        go_wp2_with fail
        refine G.out.mono ?_
        rintro e w8 ⟨u, rfl, hu, hb8, _⟩
        obtain ⟨au2, cu2, hue⟩ : ∃ ao c, u = .slice ao 0 c := by obtain ⟨ao, c, h, _⟩ := hu.out; exact ⟨ao, c, h⟩
        subst hue
        have ht8 := Lib.hid (ht7.out.below hb8.out)
        have hv8 := Lib.hid (hv7.out.below hb8.out)
        clear hv7 ht7 hu hb8 G
        go_wp2_with fail
        go_loopw [13] (fun iv wr2 => ∃ i : Nat, i ≤ m ∧ iv = .int .i64 (i : Int) ∧ Hid (Below w8.heap.size w8 wr2)) (fun iv _ => m - (intOf iv).toNat)
        case atStart => exact ⟨0, Nat.zero_le _, rfl, (show Below _ _ _ from Below.refl _ _)⟩
        case round =>
          obtain ⟨i, hi, rfl, HB⟩ := hrel
          by_cases hlt2 : i < m
          · have hiz : (i : Int) < (m : Int) := by omega
            have hiD : i < DD.length := by rw [HM.out]; exact hlt2
            obtain ⟨g, rfl, hgl, e08, _⟩ := hv8.out.at hiD
            have HE : Hid (∀ W, Below w8.heap.size w8 W → W.cell? ⟨g, i * 2, none⟩ = some (.int .i64 DD[i].1)) := fun W hW => (hW.cell (p := ⟨g, i * 2, none⟩) hgl).trans e08
            have e0 := HE.out _ HB.out
            clear e08
            have hxm : DD[i] ∈ DD := List.getElem_mem hiD
            obtain ⟨Q, hf, kf, q1, q2, f1, f2, HBK, HHS⟩ := two_has ht8.out HL1.out HL2.out (HG1.out _ hxm) (HG2.out _ hxm)
            clear hxm
            generalize DD[i] = x at *
            clear hiD
            obtain ⟨x1, x2⟩ := x
            go_wp2_with fail
            go_region_held3 (fun W : World => W.cell? ⟨g, i * 2, none⟩ = some (.int .i64 x1))
              (first | exact e0 | assumption)
              (first
                | (go_at_call 16; refine (HBK.out _ (by first | exact q1 | exact q2) _ (by first | exact HB.out.drew | exact hb9.out)).mono ?_; rintro e w9 ⟨vk, rfl, hvk, hb9⟩; have e9 := HE.out _ hb9.out)
                | (go_at_call 24; refine (HHS.out _ (by first | exact q1 | exact q2) _ _ hvk.out).mono ?_; rintro e w10 ⟨rfl, rfl⟩))
            have HBN := Lib.hid hb9.out
            go_wp2
            go_roundw
            case rel => exact ⟨i + 1, by omega, by go_num, HBN.out⟩
            case measure => simp [intOf]; omega
          · have hiz : ¬ (i : Int) < (m : Int) := by omega
            have ht9 := Lib.hid (ht8.out.below HB.out)
            have hv9 := Lib.hid (hv8.out.below HB.out)
            clear ht8 hv8 HB
            go_wp2_with fail
            go_loopw [14, 15, 16] (fun iv _ _ wr3 => ∃ i : Nat, i ≤ m ∧ iv = .int .i64 (i : Int) ∧ Hid (∃ D, Two T w wr3 p1 p2 C.drop D ∧ Tells DD D ∧ D.misses < 1000000) ∧ Hid (SlW wr3 (.slice aod m cd) DD)) (fun iv _ _ _ => m - (intOf iv).toNat)
            case atStart => exact ⟨0, Nat.zero_le _, rfl, ⟨_, ht9.out, HTL.out, HMS.out⟩, hv9.out⟩
            case round =>
              obtain ⟨i, hi, rfl, HD, HV⟩ := hrel
              clear ht9 hv9
              obtain ⟨D, hD⟩ := HD.out
              have HDD := Lib.hid hD
              clear hD HD
              by_cases hlt3 : i < m
              · have hiz : (i : Int) < (m : Int) := by omega
                have hiD : i < DD.length := by rw [HM.out]; exact hlt3
                have hxm : DD[i] ∈ DD := List.getElem_mem hiD
                have HX : Hid (∀ W, SlW W (.slice aod m cd) DD → ∃ g, aod = some ⟨g, 0, none⟩ ∧ g < W.heap.size ∧ W.cell? ⟨g, i * 2, none⟩ = some (.int .i64 DD[i].1) ∧ W.cell? ⟨g, i * 2 + 1, none⟩ = some (.string DD[i].2)) := fun W h => h.at hiD
                have G := Lib.hid (HDD.out.1.gets HDD.out.2.1 HDD.out.2.2 hxm (HRG.out _ hxm))
                obtain ⟨g, hg, _, e0, e1⟩ := HX.out _ HV.out
                subst hg
                clear hxm e1
                generalize DD[i] = x at *
                clear hiD
                obtain ⟨x1, x2⟩ := x
                go_wp2_with fail
                refine G.out.mono ?_
                rintro e w9 ⟨rfl, hd9, hk9⟩
                have hv9 := Lib.hid (HV.out.stand HT.out hk9.out.1 hk9.out.2)
                obtain ⟨g', hg', _, f0, f1⟩ := HX.out _ hv9.out
                obtain rfl : g = g' := by simpa using hg'
                clear hg' e0
                go_wp2
                go_roundw
                case rel => exact ⟨i + 1, by omega, by go_num, hd9.out, hv9.out⟩
                case measure => simp [intOf]; omega
              · have hiz : ¬ (i : Int) < (m : Int) := by omega
                have HBE := Lib.hid HDD.out.1.bel
                go_wp2
                go_ret
                exact ⟨rfl, HBE.out⟩
end Go.Proofs.Yteeoglfgilabaaa
/- The region of the document's Dirty in which a row is put together anew (three appends, two literals, four loads, in whatever order), by an invariant. -/
namespace Go.Proofs.Yteeoglfgilabaaa
open Go.RowKit
open Fr (waitsOf backwards all_up shapeOf shape_at shape_is wp_region_inv wpAny_inv left_new step_val)

theorem two_cellsQ {w : World} {g : Nat} {x y : Value} {t : TypeId} {fz : Nat × Nat} (h : w.heap[g]? = some (.cells #[x, y] t fz)) : ∀ j u, [x, y][j]? = some u → w.cell? ((⟨g, 0, none⟩ : Addr).add j) = some u := by
  intro j u hu
  have hadd : (⟨g, 0, none⟩ : Addr).add j = ⟨g, j, none⟩ := by unfold Addr.add; split <;> simp_all
  rw [hadd, cell_at h]
  simpa using hu

/-- An append of what u says onto any row of one's own. -/
def AppOK (X : World) (B : Nat) (u : Value) (m : Nat) (news : List Value) : Prop :=
  ∀ (W : World) (ty : TypeId) (v : Value) (n : Nat) (xs : List Value), Below X.heap.size X W → n ≤ 100000 → W.ownsRow B 50 2 v n xs → ∃ v' w', (Builtin.append_ #[45, 45] ty #[v, u]).run Try.prog W = .ok v' w' ∧ w'.ownsRow B 50 2 v' (n + m) (xs ++ news) ∧ W.grownBy w' v.ownBlock ∧ (∀ k, v'.ownBlock = some k → v.ownBlock = some k ∨ W.heap.size ≤ k)

def r9Shape : List (Option Tmp × Op × Bool) := [
  (some 46, .buildSlice 45 0 #[], true),
  (some 47, .move (.tmp 3), true), (some 48, .move (.tmp 5), true), (some 49, .slice 45 (.tmp 47) none (some (.tmp 48)) none, true),
  (some 50, .call { callee := .builtin .append, args := #[.tmp 46, .tmp 49], argTypes := #[45, 45] }, true),
  (some 51, .move (.tmp 0), true), (some 52, .nilCheck (.tmp 51), true), (some 53, .fieldAddr 42 (.tmp 52) 0, true), (some 54, .load 40 (.tmp 53), true), (some 55, .move (.tmp 4), true), (some 56, .indexAddr 40 (.tmp 54) (.tmp 55), true), (some 57, .fieldAddr 48 (.tmp 56) 0, true), (some 58, .load 3 (.tmp 57), true),
  (some 59, .move (.tmp 0), true), (some 60, .nilCheck (.tmp 59), true), (some 61, .fieldAddr 42 (.tmp 60) 0, true), (some 62, .load 40 (.tmp 61), true), (some 63, .move (.tmp 4), true), (some 64, .indexAddr 40 (.tmp 62) (.tmp 63), true), (some 65, .fieldAddr 48 (.tmp 64) 1, true), (some 66, .load 9 (.tmp 65), true),
  (some 67, .build 50 #[(0, .tmp 58), (1, .tmp 66)], true), (some 68, .buildSlice 45 1 #[(0, .tmp 67)], true),
  (some 69, .call { callee := .builtin .append, args := #[.tmp 50, .tmp 68], argTypes := #[45, 45] }, true),
  (some 70, .move (.tmp 3), true), (some 71, .move (.tmp 5), true), (some 72, .slice 45 (.tmp 70) (some (.tmp 71)) none none, true),
  (some 73, .call { callee := .builtin .append, args := #[.tmp 69, .tmp 72], argTypes := #[45, 45] }, true),
  (some 3, .assign (.tmp 73), true)]
def r9Waits : List (Nat × Nat) := [(3, 1), (3, 2), (4, 0), (4, 3), (6, 5), (7, 6), (8, 7), (10, 8), (10, 9), (11, 10), (12, 11), (14, 13), (15, 14), (16, 15), (18, 16), (18, 17), (19, 18), (20, 19), (21, 12), (21, 20), (22, 21), (23, 4), (23, 22), (26, 24), (26, 25), (27, 23), (27, 26), (28, 27)]
def waitsAll (ops : Array Oper) (L : List (Nat × Nat)) : Bool := L.all fun p => waitsOf ops p.1 p.2
theorem waits_of {ops : Array Oper} {L : List (Nat × Nat)} (h : waitsAll ops L = true) {i k : Nat} (hm : (i, k) ∈ L) : waitsOf ops i k = true := List.all_eq_true.1 h (i, k) hm
/-- The values of the operations that turn nothing. -/
def r9V (p k i n c2 gr : Nat) (ov fv rv : Value) (xk : Int) (xd : ByteArray) : List Value := [
  undef, ov, .int .i64 (i : Int), fv, undef,
  .pointer (some ⟨p, 0, none⟩), .pointer (some ⟨p, 0, none⟩), .pointer (some ⟨p, 0, none⟩), .slice (some ⟨gr, 0, none⟩) n c2, .int .i64 (k : Int), .pointer (some ⟨gr, k * 4, none⟩), .pointer (some ⟨gr, k * 4, none⟩), .int .i64 xk,
  .pointer (some ⟨p, 0, none⟩), .pointer (some ⟨p, 0, none⟩), .pointer (some ⟨p, 0, none⟩), .slice (some ⟨gr, 0, none⟩) n c2, .int .i64 (k : Int), .pointer (some ⟨gr, k * 4, none⟩), .pointer (some ⟨gr, k * 4 + 1, none⟩), .string xd,
  .agg #[.int .i64 xk, .string xd], undef, undef, ov, .int .i64 (i : Int), rv, undef]
def St9 (N1 N2 : List Value) (n1 n2 : Nat) (x : List Value) (listed : Array Bool) (a : Act) (r : Value) (n : Nat) (xs : List Value) : Prop :=
  (listed.getD 4 false = false ∧ r = a.tmps.getD 46 undef ∧ n = 0 ∧ xs = []) ∨ (listed.getD 4 false = true ∧ listed.getD 23 false = false ∧ r = a.tmps.getD 50 undef ∧ n = n1 ∧ xs = N1) ∨
  (listed.getD 23 false = true ∧ listed.getD 27 false = false ∧ r = a.tmps.getD 69 undef ∧ n = n1 + 1 ∧ xs = N1 ++ x) ∨ (listed.getD 27 false = true ∧ listed.getD 28 false = false ∧ r = a.tmps.getD 73 undef ∧ n = n1 + 1 + n2 ∧ xs = N1 ++ x ++ N2) ∨
  (listed.getD 28 false = true ∧ r = a.tmps.getD 3 undef ∧ n = n1 + 1 + n2 ∧ xs = N1 ++ x ++ N2)
structure I9 (X : World) (B : Nat) (T : Array Value) (Vl : List Value) (N1 N2 : List Value) (n1 n2 : Nat) (xk : Int) (xd : ByteArray) (ops : Array Oper) (listed : Array Bool) (a : Act) (w : World) : Prop where
  size : a.tmps.size = 75
  defers : a.defers = []
  lsize : listed.size = 29
  base : ∀ d, d < 46 → d ≠ 3 → a.tmps.getD d undef = T.getD d undef
  last : a.tmps.getD 74 undef = T.getD 74 undef
  three : listed.getD 28 false = false → a.tmps.getD 3 undef = T.getD 3 undef
  closed : ∀ i k, waitsOf ops i k = true → listed.getD i false = true → listed.getD k false = true
  pure : ∀ i, i < 28 → i ≠ 0 → i ≠ 4 → i ≠ 22 → i ≠ 23 → i ≠ 27 → listed.getD i false = true → a.tmps.getD (46 + i) undef = Vl.getD i undef
  bel : Below X.heap.size X w
  row : listed.getD 0 false = true → ∃ r n xs, St9 N1 N2 n1 n2 [.int .i64 xk, .string xd] listed a r n xs ∧ w.ownsRow B 50 2 r n xs ∧ (∀ q, r.ownBlock = some q → X.heap.size ≤ q) ∧
    (listed.getD 22 false = true → listed.getD 23 false = false → ∀ gb, a.tmps.getD 68 undef = .slice (some ⟨gb, 0, none⟩) 1 1 → r.ownBlock ≠ some gb)
  one : listed.getD 22 false = true → listed.getD 23 false = false → ∃ gb, a.tmps.getD 68 undef = .slice (some ⟨gb, 0, none⟩) 1 1 ∧ w.heap[gb]? = some (.cells #[.int .i64 xk, .string xd] 50 (0, 0))
theorem put_same {a : Act} {d : Nat} {v : Value} (h : d < a.tmps.size) : (a.put (some d) v).tmps.getD d undef = v := by
  show (a.tmps.setIfInBounds d v).getD d undef = v
  simp [h]
theorem put_other {a : Act} {d k : Nat} {v : Value} (h : k ≠ d) : (a.put (some d) v).tmps.getD k undef = a.tmps.getD k undef := by
  show (a.tmps.setIfInBounds d v).getD k undef = _
  simp [Ne.symm h]
theorem put_size {a : Act} {d : Nat} {v : Value} : (a.put (some d) v).tmps.size = a.tmps.size := by
  show (a.tmps.setIfInBounds d v).size = _
  simp
section
variable {X : World} {B : Nat} {T : Array Value} {Vl N1 N2 : List Value} {n1 n2 : Nat} {xk : Int} {xd : ByteArray} {ops : Array Oper} {listed : Array Bool} {a : Act} {w : World}
theorem closed_set {listed : Array Bool} (hc : ∀ i k, waitsOf ops i k = true → listed.getD i false = true → listed.getD k false = true) {j : Nat} (hr : j ∈ Region.ready .any ops listed) :
    ∀ i k, waitsOf ops i k = true → (listed.setIfInBounds j true).getD i false = true → (listed.setIfInBounds j true).getD k false = true := by
  intro i k hw hi
  have mono : ∀ q, listed.getD q false = true → (listed.setIfInBounds j true).getD q false = true := by
    intro q hq
    by_cases e : q = j
    · subst e
      rw [Array.getD_eq_getD_getElem?, Array.getElem?_setIfInBounds]
      rw [Array.getD_eq_getD_getElem?] at hq
      by_cases hl : q < listed.size
      · simp [hl]
      · simp [hl] at hq
    · rw [getD_other e]; exact hq
  by_cases e : i = j
  · subst e; exact mono k (wait_listed hr hw)
  · rw [getD_other e] at hi; exact mono k (hc i k hw hi)
theorem I9.pure_step (h : I9 X B T Vl N1 N2 n1 n2 xk xd ops listed a w) {i : Nat} (hr : i ∈ Region.ready .any ops listed) (hi : i < 28) (h0 : i ≠ 0) (h4 : i ≠ 4) (h22 : i ≠ 22) (h23 : i ≠ 23) (h27 : i ≠ 27) {v : Value} (hv : v = Vl.getD i undef) :
    I9 X B T Vl N1 N2 n1 n2 xk xd ops (listed.setIfInBounds i true) (a.put (some (46 + i)) v) w := by
  have L0 : (listed.setIfInBounds i true).getD 0 false = listed.getD 0 false := getD_other (Ne.symm h0)
  have L4 : (listed.setIfInBounds i true).getD 4 false = listed.getD 4 false := getD_other (Ne.symm h4)
  have L22 : (listed.setIfInBounds i true).getD 22 false = listed.getD 22 false := getD_other (Ne.symm h22)
  have L23 : (listed.setIfInBounds i true).getD 23 false = listed.getD 23 false := getD_other (Ne.symm h23)
  have L27 : (listed.setIfInBounds i true).getD 27 false = listed.getD 27 false := getD_other (Ne.symm h27)
  have L28 : (listed.setIfInBounds i true).getD 28 false = listed.getD 28 false := getD_other (by omega)
  have P46 : (a.put (some (46 + i)) v).tmps.getD 46 undef = a.tmps.getD 46 undef := put_other (by omega)
  have P50 : (a.put (some (46 + i)) v).tmps.getD 50 undef = a.tmps.getD 50 undef := put_other (by omega)
  have P68 : (a.put (some (46 + i)) v).tmps.getD 68 undef = a.tmps.getD 68 undef := put_other (by omega)
  have P69 : (a.put (some (46 + i)) v).tmps.getD 69 undef = a.tmps.getD 69 undef := put_other (by omega)
  have P73 : (a.put (some (46 + i)) v).tmps.getD 73 undef = a.tmps.getD 73 undef := put_other (by omega)
  have P3 : (a.put (some (46 + i)) v).tmps.getD 3 undef = a.tmps.getD 3 undef := put_other (by omega)
  refine ⟨by rw [put_size]; exact h.size, h.defers, by simp [h.lsize], fun d hd h3 => ?_, ?_, ?_, closed_set h.closed hr, fun j hj j0 j4 j22 j23 j27 hl => ?_, h.bel, ?_, ?_⟩
  · rw [put_other (by omega)]; exact h.base d hd h3
  · rw [put_other (by omega)]; exact h.last
  · rw [L28, P3]; exact h.three
  · by_cases e : j = i
    · subst e
      rw [put_same (by rw [h.size]; omega)]; exact hv
    · rw [put_other (by omega)]
      rw [getD_other e] at hl
      exact h.pure j hj j0 j4 j22 j23 j27 hl
  · rw [L0, L22, L23, P68]
    intro hl
    obtain ⟨r, n, xs, hs, rest⟩ := h.row hl
    refine ⟨r, n, xs, ?_, rest⟩
    unfold St9 at hs ⊢
    rw [L4, L23, L27, L28, P46, P50, P69, P73, P3]
    exact hs
  · rw [L22, L23, P68]; exact h.one

/-- Another operation has come up: what does not hang on which one. -/
theorem I9.next (h : I9 X B T Vl N1 N2 n1 n2 xk xd ops listed a w) {j d : Nat} {v : Value} {w' : World} (hr : j ∈ Region.ready .any ops listed) (hd : (d = 46 + j ∧ j < 28 ∧ (j = 0 ∨ j = 4 ∨ j = 22 ∨ j = 23 ∨ j = 27)) ∨ (d = 3 ∧ j = 28)) (hb : Below X.heap.size X w')
    (hrow : (listed.setIfInBounds j true).getD 0 false = true → ∃ r n xs, St9 N1 N2 n1 n2 [.int .i64 xk, .string xd] (listed.setIfInBounds j true) (a.put (some d) v) r n xs ∧ w'.ownsRow B 50 2 r n xs ∧ (∀ q, r.ownBlock = some q → X.heap.size ≤ q) ∧
      ((listed.setIfInBounds j true).getD 22 false = true → (listed.setIfInBounds j true).getD 23 false = false → ∀ gb, (a.put (some d) v).tmps.getD 68 undef = .slice (some ⟨gb, 0, none⟩) 1 1 → r.ownBlock ≠ some gb))
    (hone : (listed.setIfInBounds j true).getD 22 false = true → (listed.setIfInBounds j true).getD 23 false = false → ∃ gb, (a.put (some d) v).tmps.getD 68 undef = .slice (some ⟨gb, 0, none⟩) 1 1 ∧ w'.heap[gb]? = some (.cells #[.int .i64 xk, .string xd] 50 (0, 0))) :
    I9 X B T Vl N1 N2 n1 n2 xk xd ops (listed.setIfInBounds j true) (a.put (some d) v) w' := by
  refine ⟨by rw [put_size]; exact h.size, h.defers, by simp [h.lsize], fun e he h3 => ?_, ?_, fun hl => ?_, closed_set h.closed hr, fun q hq j0 j4 j22 j23 j27 hl => ?_, hb, hrow, hone⟩
  · rw [put_other (by omega)]; exact h.base e he h3
  · rw [put_other (by omega)]; exact h.last
  · by_cases e : j = 28
    · subst e
      rw [listed_set (by rw [h.lsize]; omega)] at hl; cases hl
    · rw [getD_other (by omega)] at hl
      rw [put_other (by omega)]; exact h.three hl
  · rw [getD_other (by omega)] at hl
    rw [put_other (by omega)]
    exact h.pure q hq j0 j4 j22 j23 j27 hl
theorem lit_none (w : World) : (Instr.buildSlice 45 0 #[]).run Try.prog w = .ok (.slice (some ⟨w.heap.size, 0, none⟩) 0 0) (w.alloc (.cells #[] 50)) := by
  kernel_rfl
theorem lit_one (w : World) (xk : Int) (xd : ByteArray) : (Instr.buildSlice 45 1 #[(0, .agg #[.int .i64 xk, .string xd])]).run Try.prog w = .ok (.slice (some ⟨w.heap.size, 0, none⟩) 1 1) (w.alloc (.cells #[.int .i64 xk, .string xd] 50)) := by
  kernel_rfl
theorem own_lt {w : World} {B : Nat} {e : TypeId} {k n : Nat} {r : Value} {xs : List Value} (h : w.ownsRow B e k r n xs) {q : Nat} (hq : r.ownBlock = some q) : q < w.heap.size := by
  rcases h.2 with ⟨rfl, _⟩ | ⟨g, cap, cur, rfl, _, hg, _⟩
  · cases hq
  · simp [Value.ownBlock] at hq; subst hq; exact (Array.getElem?_eq_some_iff.1 hg).1

set_option maxHeartbeats 4000000 in
theorem r9_step {p k i n c2 gr : Nat} {ov fv rv : Value} {Q : Exit → Act → World → Prop}
    (hsh : ops.toList.map shapeOf = r9Shape) (hwt : waitsAll ops r9Waits = true)
    (T0 : T.getD 0 undef = .pointer (some ⟨p, 0, none⟩)) (T3 : T.getD 3 undef = ov) (T4 : T.getD 4 undef = .int .i64 (k : Int)) (T5 : T.getD 5 undef = .int .i64 (i : Int))
    (hfv : ∀ W : World, Below X.heap.size X W → (Instr.sliceAt 45 ov none (some (.int .i64 (i : Int))) none).run Try.prog W = .ok fv W) (hrv : ∀ W : World, Below X.heap.size X W → (Instr.sliceAt 45 ov (some (.int .i64 (i : Int))) none none).run Try.prog W = .ok rv W)
    (hkn : k < n) (hcell : ∀ W : World, Below X.heap.size X W → W.cell? ⟨p, 0, none⟩ = some (.slice (some ⟨gr, 0, none⟩) n c2) ∧ W.cell? ⟨gr, k * 4, none⟩ = some (.int .i64 xk) ∧ W.cell? ⟨gr, k * 4 + 1, none⟩ = some (.string xd))
    (hB : B ≤ X.heap.size) (hA1 : AppOK X B fv n1 N1) (hA2 : AppOK X B rv n2 N2) (hn1 : n1 ≤ 50000)
    (h : I9 X B T (r9V p k i n c2 gr ov fv rv xk xd) N1 N2 n1 n2 xk xd ops listed a w) (j : Nat) (hr : j ∈ Region.ready .any ops listed) :
    wpOp Try.prog ops Q j (fun a' w' => I9 X B T (r9V p k i n c2 gr ov fv rv xk xd) N1 N2 n1 n2 xk xd ops (listed.setIfInBounds j true) a' w') a w := by
  obtain ⟨hun, o, ho, hready⟩ := mem_ready.1 hr
  have hsz : ops.size = 29 := by have := congrArg List.length hsh; simpa [r9Shape] using this
  have hlt : j < 29 := by have := (Array.getElem?_eq_some_iff.1 ho).1; omega
  obtain ⟨c0, x0, x1⟩ := hcell w h.bel
  have wl : ∀ q, (j, q) ∈ r9Waits → listed.getD q false = true := fun q hm => wait_listed hr (waits_of hwt hm)
  have nl : listed.getD j false = false := not_listed hun
  have up : ∀ q, (j, q) ∈ r9Waits → q < 28 → q ≠ 0 → q ≠ 4 → q ≠ 22 → q ≠ 23 → q ≠ 27 → a.tmps.getD (46 + q) undef = (r9V p k i n c2 gr ov fv rv xk xd).getD q undef := fun q hm h1 h2 h3 h4 h5 h6 => h.pure q h1 h2 h3 h4 h5 h6 (wl q hm)
  have t0 : a.tmps.getD 0 undef = .pointer (some ⟨p, 0, none⟩) := (h.base 0 (by omega) (by omega)).trans T0
  have t4 : a.tmps.getD 4 undef = .int .i64 (k : Int) := (h.base 4 (by omega) (by omega)).trans T4
  have t5 : a.tmps.getD 5 undef = .int .i64 (i : Int) := (h.base 5 (by omega) (by omega)).trans T5
  have val : ∀ {op : Op}, r9Shape[j]? = some (some (46 + j), op, true) → j < 28 → j ≠ 0 → j ≠ 4 → j ≠ 22 → j ≠ 23 → j ≠ 27 → (o.op = op → (execOp a.eval o).run Try.prog w = .ok (.value ((r9V p k i n c2 gr ov fv rv xk xd).getD j undef)) w) →
      wpOp Try.prog ops Q j (fun a' w' => I9 X B T (r9V p k i n c2 gr ov fv rv xk xd) N1 N2 n1 n2 xk xd ops (listed.setIfInBounds j true) a' w') a w := by
    intro op hl h1 h2 h3 h4 h5 h6 hrun
    obtain ⟨e1, e2, e3⟩ := shape_is hsh ho hl
    refine step_val ho e3 (hrun e2) ?_
    rw [e1]
    exact h.pure_step hr h1 h2 h3 h4 h5 h6 rfl
  have no28 : listed.getD 28 false = true → listed.getD j false = true → False := fun _ h => by rw [nl] at h; cases h
  have down : ∀ q s, (q, s) ∈ r9Waits → listed.getD q false = true → listed.getD s false = true := fun q s hm => h.closed q s (waits_of hwt hm)
  have off : ∀ q, listed.getD q false ≠ true → listed.getD q false = false := fun q => by cases listed.getD q false <;> simp
  have d23 := down 23 4 (by decide); have d27 := down 27 23 (by decide); have d28 := down 28 27 (by decide); have d40 := down 4 0 (by decide); have d22 := down 23 22 (by decide)
  match j, hlt with
  | 0, _ =>
    obtain ⟨e1, e2, e3⟩ := shape_is hsh ho (d := 46) (op := .buildSlice 45 0 #[]) rfl
    have n4 : listed.getD 4 false = false := off _ fun e => by rw [d40 e] at nl; cases nl
    have n23 : listed.getD 23 false = false := off _ fun e => by rw [d23 e] at n4; cases n4
    refine step_val ho e3 (v := .slice (some ⟨w.heap.size, 0, none⟩) 0 0) (w' := w.alloc (.cells #[] 50)) ?_ ?_
    · unfold execOp; simp only [e2, List.map_toArray, List.map_nil]; rw [Sem.run_bind, lit_none]; rfl
    · rw [e1]
      refine h.next hr (.inl ⟨rfl, by omega, .inl rfl⟩) (h.bel.alloc h.bel.size _) (fun _ => ⟨_, 0, [], .inl ⟨by rw [getD_other (by omega)]; exact n4, (put_same (by rw [h.size]; omega)).symm, rfl, rfl⟩, World.ownsRow_lit w #[] 0 (Nat.le_trans hB h.bel.size) (Nat.zero_le _) rfl, fun q hq => ?_, fun h22 _ gb hgb => ?_⟩) (fun h22 h23 => ?_)
      · have e9 : q = w.heap.size := by simpa [Value.ownBlock] using hq.symm
        rw [e9]; exact h.bel.size
      · rw [getD_other (by omega)] at h22
        rw [put_other (by omega)] at hgb
        obtain ⟨gb', hg1, hg2⟩ := h.one h22 n23
        rw [hgb] at hg1; cases hg1
        intro e; cases e
        exact absurd (Array.getElem?_eq_some_iff.1 hg2).1 (Nat.lt_irrefl _)
      · rw [getD_other (by omega)] at h22
        obtain ⟨gb', hg1, hg2⟩ := h.one h22 n23
        refine ⟨gb', by rw [put_other (by omega)]; exact hg1, ?_⟩
        have hlt9 := (Array.getElem?_eq_some_iff.1 hg2).1
        exact (((Below.refl w.heap.size w).alloc (Nat.le_refl _) _).block gb' hlt9).trans hg2
  | 1, _ =>
    refine val (op := .move (.tmp 3)) rfl (by omega) (by omega) (by omega) (by omega) (by omega) (by omega) fun hop => ?_
    have h28 : listed.getD 28 false = false := by
      cases e : listed.getD 28 false with
      | false => rfl
      | true =>
        have := down 3 1 (by decide) (down 4 3 (by decide) (down 23 4 (by decide) (down 27 23 (by decide) (down 28 27 (by decide) e))))
        rw [nl] at this; cases this
    unfold execOp; simp only [hop, Act.eval]; rw [h.three h28, T3]; rfl
  | 2, _ =>
    refine val (op := .move (.tmp 5)) rfl (by omega) (by omega) (by omega) (by omega) (by omega) (by omega) fun hop => ?_
    unfold execOp; simp only [hop, Act.eval]; rw [t5]; rfl
  | 3, _ =>
    refine val (op := .slice 45 (.tmp 47) none (some (.tmp 48)) none) rfl (by omega) (by omega) (by omega) (by omega) (by omega) (by omega) fun hop => ?_
    have u1 := up 1 (by decide) (by omega) (by omega) (by omega) (by omega) (by omega) (by omega)
    have u2 := up 2 (by decide) (by omega) (by omega) (by omega) (by omega) (by omega) (by omega)
    unfold execOp; simp only [hop, Act.eval, Option.map_none, Option.map_some]; rw [u1, u2, Sem.run_bind]
    show ((Instr.sliceAt 45 ov none (some (.int .i64 (i : Int))) none).run Try.prog w).andThen _ = _
    rw [hfv w h.bel]; rfl
  | 4, _ =>
    obtain ⟨e1, e2, e3⟩ := shape_is hsh ho (d := 50) (op := .call { callee := .builtin .append, args := #[.tmp 46, .tmp 49], argTypes := #[45, 45] }) rfl
    have l0 := wl 0 (by decide)
    have n23 : listed.getD 23 false = false := off _ fun e => by rw [d23 e] at nl; cases nl
    obtain ⟨r, n9, xs, hs, hown, hge, hne⟩ := h.row l0
    obtain ⟨rfl, rfl, rfl⟩ : r = a.tmps.getD 46 undef ∧ n9 = 0 ∧ xs = [] := by
      rcases hs with ⟨_, h1⟩ | ⟨h1, _⟩ | ⟨h1, _⟩ | ⟨h1, _⟩ | ⟨h1, _⟩
      · exact h1
      · rw [nl] at h1; cases h1
      · rw [n23] at h1; cases h1
      · rw [d27 h1] at n23; cases n23
      · rw [d27 (d28 h1)] at n23; cases n23
    have u3 : a.tmps.getD 49 undef = fv := up 3 (by decide) (by omega) (by omega) (by omega) (by omega) (by omega) (by omega)
    obtain ⟨v', w', hrun, hown', hgrow, hwh⟩ := hA1 w o.type _ 0 [] h.bel (by omega) hown
    rw [Nat.zero_add, List.nil_append] at hown'
    refine step_val ho e3 (v := v') (w' := w') ?_ ?_
    · unfold execOp
      simp only [e2, resolve, invoke, builtin, Sem.run_bind, Sem.run_pure, Result.andThen_ok, List.map_toArray, List.map_cons, List.map_nil, Act.eval]
      rw [u3, hrun]; rfl
    · rw [e1]
      have hb' : Below X.heap.size X w' := h.bel.grown hgrow h.bel.size hge
      refine h.next hr (.inl ⟨rfl, by omega, .inr (.inl rfl)⟩) hb' (fun _ => ⟨v', n1, N1, .inr (.inl ⟨listed_set (by rw [h.lsize]; omega), by rw [getD_other (by omega)]; exact n23, (put_same (by rw [h.size]; omega)).symm, rfl, rfl⟩), hown', fun q hq => ?_, fun h22 _ gb hgb => ?_⟩) (fun h22 h23 => ?_)
      · rcases hwh q hq with e | e
        · exact hge q e
        · exact Nat.le_trans h.bel.size e
      · rw [getD_other (by omega)] at h22
        rw [put_other (by omega)] at hgb
        obtain ⟨gb', hg1, hg2⟩ := h.one h22 n23
        rw [hgb] at hg1; cases hg1
        intro e
        rcases hwh gb e with e' | e'
        · exact hne h22 n23 gb hgb e'
        · have := (Array.getElem?_eq_some_iff.1 hg2).1; omega
      · rw [getD_other (by omega)] at h22
        obtain ⟨gb', hg1, hg2⟩ := h.one h22 n23
        refine ⟨gb', by rw [put_other (by omega)]; exact hg1, ?_⟩
        rw [hgrow.block gb' (Array.getElem?_eq_some_iff.1 hg2).1 (fun e => hne h22 n23 gb' hg1 e.symm)]
        exact hg2
  | 5, _ =>
    refine val (op := .move (.tmp 0)) rfl (by omega) (by omega) (by omega) (by omega) (by omega) (by omega) fun hop => ?_
    unfold execOp; simp only [hop, Act.eval]; rw [t0]; rfl
  | 6, _ =>
    refine val (op := .nilCheck (.tmp 51)) rfl (by omega) (by omega) (by omega) (by omega) (by omega) (by omega) fun hop => ?_
    have u1 : a.tmps.getD 51 undef = .pointer (some ⟨p, 0, none⟩) := up 5 (by decide) (by omega) (by omega) (by omega) (by omega) (by omega) (by omega)
    unfold execOp; simp only [hop, Act.eval]; rw [u1]
    go_simp
    rfl
  | 7, _ =>
    refine val (op := .fieldAddr 42 (.tmp 52) 0) rfl (by omega) (by omega) (by omega) (by omega) (by omega) (by omega) fun hop => ?_
    have u1 : a.tmps.getD 52 undef = .pointer (some ⟨p, 0, none⟩) := up 6 (by decide) (by omega) (by omega) (by omega) (by omega) (by omega) (by omega)
    unfold execOp; simp only [hop, Act.eval]; rw [u1]
    go_simp
    rfl
  | 8, _ =>
    refine val (op := .load 40 (.tmp 53)) rfl (by omega) (by omega) (by omega) (by omega) (by omega) (by omega) fun hop => ?_
    have u1 : a.tmps.getD 53 undef = .pointer (some ⟨p, 0, none⟩) := up 7 (by decide) (by omega) (by omega) (by omega) (by omega) (by omega) (by omega)
    unfold execOp; simp only [hop, Act.eval]; rw [u1]
    go_simp
    rfl
  | 9, _ =>
    refine val (op := .move (.tmp 4)) rfl (by omega) (by omega) (by omega) (by omega) (by omega) (by omega) fun hop => ?_
    unfold execOp; simp only [hop, Act.eval]; rw [t4]; rfl
  | 10, _ =>
    refine val (op := .indexAddr 40 (.tmp 54) (.tmp 55)) rfl (by omega) (by omega) (by omega) (by omega) (by omega) (by omega) fun hop => ?_
    have u1 : a.tmps.getD 54 undef = .slice (some ⟨gr, 0, none⟩) n c2 := up 8 (by decide) (by omega) (by omega) (by omega) (by omega) (by omega) (by omega)
    have u2 : a.tmps.getD 55 undef = .int .i64 (k : Int) := up 9 (by decide) (by omega) (by omega) (by omega) (by omega) (by omega) (by omega)
    have hkz : (k : Int) < (n : Int) := by omega
    unfold execOp; simp only [hop, Act.eval]; rw [u1, u2]
    go_simp
    rfl
  | 11, _ =>
    refine val (op := .fieldAddr 48 (.tmp 56) 0) rfl (by omega) (by omega) (by omega) (by omega) (by omega) (by omega) fun hop => ?_
    have u1 : a.tmps.getD 56 undef = .pointer (some ⟨gr, k * 4, none⟩) := up 10 (by decide) (by omega) (by omega) (by omega) (by omega) (by omega) (by omega)
    unfold execOp; simp only [hop, Act.eval]; rw [u1]
    go_simp
    rfl
  | 12, _ =>
    refine val (op := .load 3 (.tmp 57)) rfl (by omega) (by omega) (by omega) (by omega) (by omega) (by omega) fun hop => ?_
    have u1 : a.tmps.getD 57 undef = .pointer (some ⟨gr, k * 4, none⟩) := up 11 (by decide) (by omega) (by omega) (by omega) (by omega) (by omega) (by omega)
    unfold execOp; simp only [hop, Act.eval]; rw [u1]
    go_simp
    rfl
  | 13, _ =>
    refine val (op := .move (.tmp 0)) rfl (by omega) (by omega) (by omega) (by omega) (by omega) (by omega) fun hop => ?_
    unfold execOp; simp only [hop, Act.eval]; rw [t0]; rfl
  | 14, _ =>
    refine val (op := .nilCheck (.tmp 59)) rfl (by omega) (by omega) (by omega) (by omega) (by omega) (by omega) fun hop => ?_
    have u1 : a.tmps.getD 59 undef = .pointer (some ⟨p, 0, none⟩) := up 13 (by decide) (by omega) (by omega) (by omega) (by omega) (by omega) (by omega)
    unfold execOp; simp only [hop, Act.eval]; rw [u1]
    go_simp
    rfl
  | 15, _ =>
    refine val (op := .fieldAddr 42 (.tmp 60) 0) rfl (by omega) (by omega) (by omega) (by omega) (by omega) (by omega) fun hop => ?_
    have u1 : a.tmps.getD 60 undef = .pointer (some ⟨p, 0, none⟩) := up 14 (by decide) (by omega) (by omega) (by omega) (by omega) (by omega) (by omega)
    unfold execOp; simp only [hop, Act.eval]; rw [u1]
    go_simp
    rfl
  | 16, _ =>
    refine val (op := .load 40 (.tmp 61)) rfl (by omega) (by omega) (by omega) (by omega) (by omega) (by omega) fun hop => ?_
    have u1 : a.tmps.getD 61 undef = .pointer (some ⟨p, 0, none⟩) := up 15 (by decide) (by omega) (by omega) (by omega) (by omega) (by omega) (by omega)
    unfold execOp; simp only [hop, Act.eval]; rw [u1]
    go_simp
    rfl
  | 17, _ =>
    refine val (op := .move (.tmp 4)) rfl (by omega) (by omega) (by omega) (by omega) (by omega) (by omega) fun hop => ?_
    unfold execOp; simp only [hop, Act.eval]; rw [t4]; rfl
  | 18, _ =>
    refine val (op := .indexAddr 40 (.tmp 62) (.tmp 63)) rfl (by omega) (by omega) (by omega) (by omega) (by omega) (by omega) fun hop => ?_
    have u1 : a.tmps.getD 62 undef = .slice (some ⟨gr, 0, none⟩) n c2 := up 16 (by decide) (by omega) (by omega) (by omega) (by omega) (by omega) (by omega)
    have u2 : a.tmps.getD 63 undef = .int .i64 (k : Int) := up 17 (by decide) (by omega) (by omega) (by omega) (by omega) (by omega) (by omega)
    have hkz : (k : Int) < (n : Int) := by omega
    unfold execOp; simp only [hop, Act.eval]; rw [u1, u2]
    go_simp
    rfl
  | 19, _ =>
    refine val (op := .fieldAddr 48 (.tmp 64) 1) rfl (by omega) (by omega) (by omega) (by omega) (by omega) (by omega) fun hop => ?_
    have u1 : a.tmps.getD 64 undef = .pointer (some ⟨gr, k * 4, none⟩) := up 18 (by decide) (by omega) (by omega) (by omega) (by omega) (by omega) (by omega)
    unfold execOp; simp only [hop, Act.eval]; rw [u1]
    go_simp
    rfl
  | 20, _ =>
    refine val (op := .load 9 (.tmp 65)) rfl (by omega) (by omega) (by omega) (by omega) (by omega) (by omega) fun hop => ?_
    have u1 : a.tmps.getD 65 undef = .pointer (some ⟨gr, k * 4 + 1, none⟩) := up 19 (by decide) (by omega) (by omega) (by omega) (by omega) (by omega) (by omega)
    unfold execOp; simp only [hop, Act.eval]; rw [u1]
    go_simp
    rfl
  | 21, _ =>
    refine val (op := .build 50 #[(0, .tmp 58), (1, .tmp 66)]) rfl (by omega) (by omega) (by omega) (by omega) (by omega) (by omega) fun hop => ?_
    have u1 : a.tmps.getD 58 undef = .int .i64 xk := up 12 (by decide) (by omega) (by omega) (by omega) (by omega) (by omega) (by omega)
    have u2 : a.tmps.getD 66 undef = .string xd := up 20 (by decide) (by omega) (by omega) (by omega) (by omega) (by omega) (by omega)
    unfold execOp; simp only [hop, Act.eval, List.map_toArray, List.map_cons, List.map_nil]; rw [u1, u2]
    go_simp
    rfl
  | 22, _ =>
    obtain ⟨e1, e2, e3⟩ := shape_is hsh ho (d := 68) (op := .buildSlice 45 1 #[(0, .tmp 67)]) rfl
    have n23 : listed.getD 23 false = false := off _ fun e => by rw [d22 e] at nl; cases nl
    have u1 : a.tmps.getD 67 undef = .agg #[.int .i64 xk, .string xd] := up 21 (by decide) (by omega) (by omega) (by omega) (by omega) (by omega) (by omega)
    refine step_val ho e3 (v := .slice (some ⟨w.heap.size, 0, none⟩) 1 1) (w' := w.alloc (.cells #[.int .i64 xk, .string xd] 50)) ?_ ?_
    · unfold execOp; simp only [e2, List.map_toArray, List.map_cons, List.map_nil, Act.eval]; rw [u1, Sem.run_bind, lit_one]; rfl
    · rw [e1]
      have P68 : (a.put (some (46 + 22)) (.slice (some ⟨w.heap.size, 0, none⟩) 1 1)).tmps.getD 68 undef = .slice (some ⟨w.heap.size, 0, none⟩) 1 1 := put_same (by rw [h.size]; omega)
      refine h.next hr (.inl ⟨rfl, by omega, .inr (.inr (.inl rfl))⟩) (h.bel.alloc h.bel.size _) (fun h0 => ?_) (fun _ _ => ⟨w.heap.size, P68, heap_alloc_new w _⟩)
      rw [getD_other (by omega)] at h0
      obtain ⟨r, n9, xs, hs, hown, hge, hne⟩ := h.row h0
      refine ⟨r, n9, xs, ?_, hown.alloc _, hge, fun _ _ gb hgb e => ?_⟩
      · unfold St9 at hs ⊢
        rw [getD_other (by omega), getD_other (by omega), getD_other (by omega), getD_other (by omega), put_other (by omega), put_other (by omega), put_other (by omega), put_other (by omega), put_other (by omega)]
        exact hs
      · have : gb = w.heap.size := by
          have h9 := P68.symm.trans hgb
          simpa using h9.symm
        have := own_lt hown e
        omega
  | 23, _ =>
    obtain ⟨e1, e2, e3⟩ := shape_is hsh ho (d := 69) (op := .call { callee := .builtin .append, args := #[.tmp 50, .tmp 68], argTypes := #[45, 45] }) rfl
    have l4 := wl 4 (by decide)
    have l22 := wl 22 (by decide)
    have n27 : listed.getD 27 false = false := off _ fun e => by rw [d27 e] at nl; cases nl
    obtain ⟨r, n9, xs, hs, hown, hge, hne⟩ := h.row (d40 l4)
    obtain ⟨rfl, rfl, rfl⟩ : r = a.tmps.getD 50 undef ∧ n9 = n1 ∧ xs = N1 := by
      rcases hs with ⟨h1, _⟩ | ⟨_, _, h1⟩ | ⟨h1, _⟩ | ⟨h1, _⟩ | ⟨h1, _⟩
      · rw [l4] at h1; cases h1
      · exact h1
      · rw [nl] at h1; cases h1
      · rw [d27 h1] at nl; cases nl
      · rw [d27 (d28 h1)] at nl; cases nl
    obtain ⟨gb, hg1, hg2⟩ := h.one l22 nl
    obtain ⟨i0, hi, hz0, hz1, hz2⟩ := info_parts Try.infoW
    obtain ⟨v', w', hrun, hown', hgrow, hwh⟩ := run_append_where (P := Try.prog) w B 45 o.type 50 i0 (.agg #[.int .i64 0, .string ⟨#[]⟩]) 2 24 Try.underlying45 hi hz0 hz1 hz2 rfl (by omega) _ _ _ hown ⟨gb, 0, none⟩ 1 1 [.int .i64 xk, .string xd] rfl (two_cellsQ hg2) two_one (by unfold maxLen; omega) (by omega) (Nat.le_trans hB h.bel.size)
    refine step_val ho e3 (v := v') (w' := w') ?_ ?_
    · unfold execOp
      simp only [e2, resolve, invoke, builtin, Sem.run_bind, Sem.run_pure, Result.andThen_ok, List.map_toArray, List.map_cons, List.map_nil, Act.eval]
      rw [hg1, hrun]; rfl
    · rw [e1]
      have hb' : Below X.heap.size X w' := h.bel.grown hgrow h.bel.size hge
      refine h.next hr (.inl ⟨rfl, by omega, .inr (.inr (.inr (.inl rfl)))⟩) hb' (fun _ => ⟨v', n9 + 1, _, .inr (.inr (.inl ⟨listed_set (by rw [h.lsize]; omega), by rw [getD_other (by omega)]; exact n27, (put_same (by rw [h.size]; omega)).symm, rfl, rfl⟩)), hown', fun q hq => ?_, fun _ h23 => ?_⟩) (fun _ h23 => ?_)
      · rcases hwh q hq with e | e
        · exact hge q e
        · exact Nat.le_trans h.bel.size e
      · rw [listed_set (by rw [h.lsize]; omega)] at h23; cases h23
      · rw [listed_set (by rw [h.lsize]; omega)] at h23; cases h23
  | 24, _ =>
    refine val (op := .move (.tmp 3)) rfl (by omega) (by omega) (by omega) (by omega) (by omega) (by omega) fun hop => ?_
    have h28 : listed.getD 28 false = false := by
      cases e : listed.getD 28 false with
      | false => rfl
      | true =>
        have := down 26 24 (by decide) (down 27 26 (by decide) (down 28 27 (by decide) e))
        rw [nl] at this; cases this
    unfold execOp; simp only [hop, Act.eval]; rw [h.three h28, T3]; rfl
  | 25, _ =>
    refine val (op := .move (.tmp 5)) rfl (by omega) (by omega) (by omega) (by omega) (by omega) (by omega) fun hop => ?_
    unfold execOp; simp only [hop, Act.eval]; rw [t5]; rfl
  | 26, _ =>
    refine val (op := .slice 45 (.tmp 70) (some (.tmp 71)) none none) rfl (by omega) (by omega) (by omega) (by omega) (by omega) (by omega) fun hop => ?_
    have u1 := up 24 (by decide) (by omega) (by omega) (by omega) (by omega) (by omega) (by omega)
    have u2 := up 25 (by decide) (by omega) (by omega) (by omega) (by omega) (by omega) (by omega)
    unfold execOp; simp only [hop, Act.eval, Option.map_none, Option.map_some]; rw [u1, u2, Sem.run_bind]
    show ((Instr.sliceAt 45 ov (some (.int .i64 (i : Int))) none none).run Try.prog w).andThen _ = _
    rw [hrv w h.bel]; rfl
  | 27, _ =>
    obtain ⟨e1, e2, e3⟩ := shape_is hsh ho (d := 73) (op := .call { callee := .builtin .append, args := #[.tmp 69, .tmp 72], argTypes := #[45, 45] }) rfl
    have l23 := wl 23 (by decide)
    have n28 : listed.getD 28 false = false := off _ fun e => by rw [d28 e] at nl; cases nl
    obtain ⟨r, n9, xs, hs, hown, hge, hne⟩ := h.row (d40 (d23 l23))
    obtain ⟨rfl, rfl, rfl⟩ : r = a.tmps.getD 69 undef ∧ n9 = n1 + 1 ∧ xs = N1 ++ [.int .i64 xk, .string xd] := by
      rcases hs with ⟨h1, _⟩ | ⟨_, h1, _⟩ | ⟨_, _, h1⟩ | ⟨h1, _⟩ | ⟨h1, _⟩
      · rw [d23 l23] at h1; cases h1
      · rw [l23] at h1; cases h1
      · exact h1
      · rw [nl] at h1; cases h1
      · rw [d28 h1] at nl; cases nl
    have u3 : a.tmps.getD 72 undef = rv := up 26 (by decide) (by omega) (by omega) (by omega) (by omega) (by omega) (by omega)
    obtain ⟨v', w', hrun, hown', hgrow, hwh⟩ := hA2 w o.type _ _ _ h.bel (by omega) hown
    refine step_val ho e3 (v := v') (w' := w') ?_ ?_
    · unfold execOp
      simp only [e2, resolve, invoke, builtin, Sem.run_bind, Sem.run_pure, Result.andThen_ok, List.map_toArray, List.map_cons, List.map_nil, Act.eval]
      rw [u3, hrun]; rfl
    · rw [e1]
      have hb' : Below X.heap.size X w' := h.bel.grown hgrow h.bel.size hge
      refine h.next hr (.inl ⟨rfl, by omega, .inr (.inr (.inr (.inr rfl)))⟩) hb' (fun _ => ⟨v', _, _, .inr (.inr (.inr (.inl ⟨listed_set (by rw [h.lsize]; omega), by rw [getD_other (by omega)]; exact n28, (put_same (by rw [h.size]; omega)).symm, rfl, rfl⟩))), hown', fun q hq => ?_, fun _ h23 => ?_⟩) (fun _ h23 => ?_)
      · rcases hwh q hq with e | e
        · exact hge q e
        · exact Nat.le_trans h.bel.size e
      · rw [getD_other (by omega), l23] at h23; cases h23
      · rw [getD_other (by omega), l23] at h23; cases h23
  | 28, _ =>
    obtain ⟨e1, e2, e3⟩ := shape_is hsh ho (d := 3) (op := .assign (.tmp 73)) rfl
    have l27 := wl 27 (by decide)
    have l23 := d27 l27
    obtain ⟨r, n9, xs, hs, hown, hge, hne⟩ := h.row (d40 (d23 l23))
    obtain ⟨rfl, rfl, rfl⟩ : r = a.tmps.getD 73 undef ∧ n9 = n1 + 1 + n2 ∧ xs = N1 ++ [.int .i64 xk, .string xd] ++ N2 := by
      rcases hs with ⟨h1, _⟩ | ⟨_, h1, _⟩ | ⟨_, h1, _⟩ | ⟨_, _, h1⟩ | ⟨h1, _⟩
      · rw [d23 l23] at h1; cases h1
      · rw [l23] at h1; cases h1
      · rw [l27] at h1; cases h1
      · exact h1
      · rw [nl] at h1; cases h1
    refine step_val ho e3 (v := a.tmps.getD 73 undef) (w' := w) ?_ ?_
    · unfold execOp; simp only [e2, Act.eval]; rfl
    · rw [e1]
      refine h.next hr (.inr ⟨rfl, rfl⟩) h.bel (fun _ => ⟨_, _, _, .inr (.inr (.inr (.inr ⟨listed_set (by rw [h.lsize]; omega), (put_same (by rw [h.size]; omega)).symm, rfl, rfl⟩))), hown, hge, fun _ h23 => ?_⟩) (fun _ h23 => ?_)
      · rw [getD_other (by omega), l23] at h23; cases h23
      · rw [getD_other (by omega), l23] at h23; cases h23
  | q + 29, h9 => exact absurd h9 (by omega)
/-- The region. -/
theorem r9_region {p k i n c2 gr : Nat} {ov fv rv : Value} {Q : Exit → Act → World → Prop} {id : Nat} {a0 : Act} (hm : Try.prog.follows .mixedOrders = true)
    (hsh : ops.toList.map shapeOf = r9Shape) (hwt : waitsAll ops r9Waits = true) (hback : backwards ops = true)
    (T0 : a0.tmps.getD 0 undef = .pointer (some ⟨p, 0, none⟩)) (T3 : a0.tmps.getD 3 undef = ov) (T4 : a0.tmps.getD 4 undef = .int .i64 (k : Int)) (T5 : a0.tmps.getD 5 undef = .int .i64 (i : Int)) (Tz : a0.tmps.size = 75) (Td : a0.defers = [])
    (hfv : ∀ W : World, Below X.heap.size X W → (Instr.sliceAt 45 ov none (some (.int .i64 (i : Int))) none).run Try.prog W = .ok fv W) (hrv : ∀ W : World, Below X.heap.size X W → (Instr.sliceAt 45 ov (some (.int .i64 (i : Int))) none none).run Try.prog W = .ok rv W)
    (hkn : k < n) (hcell : ∀ W : World, Below X.heap.size X W → W.cell? ⟨p, 0, none⟩ = some (.slice (some ⟨gr, 0, none⟩) n c2) ∧ W.cell? ⟨gr, k * 4, none⟩ = some (.int .i64 xk) ∧ W.cell? ⟨gr, k * 4 + 1, none⟩ = some (.string xd))
    (hB : B ≤ X.heap.size) (hA1 : AppOK X B fv n1 N1) (hA2 : AppOK X B rv n2 N2) (hn1 : n1 ≤ 50000)
    (hQ : ∀ (us : List Value) (v3 : Value) (w' : World), us.length = 28 → Hid (w'.ownsRow B 50 2 v3 (n1 + 1 + n2) (N1 ++ [.int .i64 xk, .string xd] ++ N2)) → Hid (Below X.heap.size X w') → Q .normal { tmps := (((a0.tmps.toList.take 46).set 3 v3) ++ us ++ [a0.tmps.getD 74 undef]).toArray, defers := [] } w') :
    (Code.region id ops true).wp Try.prog Q a0 X := by
  have hsz : ops.size = 29 := by have := congrArg List.length hsh; simpa [r9Shape] using this
  refine wp_region_any hm (wpAny_inv (fun listed a w => I9 X B a0.tmps (r9V p k i n c2 gr ov fv rv xk xd) N1 N2 n1 n2 xk xd ops listed a w) (fun listed a w h j hr => r9_step hsh hwt T0 T3 T4 T5 hfv hrv hkn hcell hB hA1 hA2 hn1 h j hr) ?_ _ _ _ _ (by rw [left_new]; exact Nat.le_refl _) ?_)
  · intro listed a w h hr
    have hup := all_up hback (by rw [h.lsize, hsz]) hr
    obtain ⟨r, n9, xs, hs, hown, _, _⟩ := h.row (hup 0 (by omega))
    obtain ⟨rfl, rfl, rfl⟩ : r = a.tmps.getD 3 undef ∧ n9 = n1 + 1 + n2 ∧ xs = N1 ++ [.int .i64 xk, .string xd] ++ N2 := by
      rcases hs with ⟨h1, _⟩ | ⟨_, h1, _⟩ | ⟨_, h1, _⟩ | ⟨_, h1, _⟩ | ⟨_, h1⟩
      · rw [hup 4 (by omega)] at h1; cases h1
      · rw [hup 23 (by omega)] at h1; cases h1
      · rw [hup 27 (by omega)] at h1; cases h1
      · rw [hup 28 (by omega)] at h1; cases h1
      · exact h1
    have key := hQ ((a.tmps.toList.drop 46).take 28) _ w (by simp [h.size]) hown h.bel
    have e : a = { tmps := (((a0.tmps.toList.take 46).set 3 (a.tmps.getD 3 undef)) ++ (a.tmps.toList.drop 46).take 28 ++ [a0.tmps.getD 74 undef]).toArray, defers := [] } := by
      have hd := h.defers
      have ht : a.tmps = (((a0.tmps.toList.take 46).set 3 (a.tmps.getD 3 undef)) ++ (a.tmps.toList.drop 46).take 28 ++ [a0.tmps.getD 74 undef]).toArray := by
        apply Array.ext'
        show a.tmps.toList = ((a0.tmps.toList.take 46).set 3 (a.tmps.getD 3 undef)) ++ (a.tmps.toList.drop 46).take 28 ++ [a0.tmps.getD 74 undef]
        apply List.ext_getElem
        · simp [h.size, Tz]
        · intro d h1 h2
          rw [Array.length_toList, h.size] at h1
          have ge : ∀ (q : Nat) (hq : q < a.tmps.size), a.tmps[q] = a.tmps.getD q undef := fun q hq => by simp [hq]
          have ge0 : ∀ (q : Nat) (hq : q < a0.tmps.size), a0.tmps[q] = a0.tmps.getD q undef := fun q hq => by simp [hq]
          by_cases c1 : d < 46
          · rw [Array.getElem_toList, List.getElem_append_left (by simp [Tz, h.size]; omega), List.getElem_append_left (by simp [Tz]; omega), List.getElem_set, ge]
            split
            · subst d; rfl
            · rename_i hne
              rw [List.getElem_take, Array.getElem_toList, ge0]
              exact h.base d c1 (Ne.symm hne)
          · by_cases c2 : d < 74
            · rw [List.getElem_append_left (by simp [Tz, h.size]; omega), List.getElem_append_right (by simp [Tz]; omega), List.getElem_take, List.getElem_drop]
              congr 1
              simp [Tz]; omega
            · obtain rfl : d = 74 := by omega
              rw [Array.getElem_toList, List.getElem_append_right (by simp [Tz, h.size]), ge, h.last]
              simp
      cases a; simp at hd ht ⊢; exact ⟨ht, hd⟩
    rw [e]; exact key
  · refine ⟨Tz, Td, by simp [hsz], fun _ _ _ => rfl, rfl, fun _ => rfl, fun i k _ hi => ?_, fun i _ _ _ _ _ _ hi => ?_, (Below.refl _ _).drew, fun hi => ?_, fun hi => ?_⟩
    all_goals rw [rep_getD] at hi; cases hi
end
end Go.Proofs.Yteeoglfgilabaaa
/- Appends of what came in, and cuts of a row. -/
namespace Go.Proofs.Yteeoglfgilabaaa
open Go.RowKit

theorem appOK_some {X : World} {B m c : Nat} {ad : Addr} {news : List Value} (hB : B ≤ X.heap.size) (hl : news.length = m * 2) (hm : m ≤ 100000) (h : ∀ W : World, Below X.heap.size X W → ∀ j u, news[j]? = some u → W.cell? (ad.add j) = some u) (h1 : ∀ u ∈ news, u.oneCell' = true) :
    AppOK X B (.slice (some ad) m c) m news := by
  intro W ty v n xs hW hn hown
  obtain ⟨i0, hi, hz0, hz1, hz2⟩ := info_parts Try.infoW
  exact run_append_where (P := Try.prog) W B 45 ty 50 i0 (.agg #[.int .i64 0, .string ⟨#[]⟩]) 2 24 Try.underlying45 hi hz0 hz1 hz2 rfl (by omega) v n xs hown ad m c news hl (h W hW) h1 (by unfold maxLen; omega) (by omega) (Nat.le_trans hB hW.size)
theorem appOK_nil {X : World} {B : Nat} : AppOK X B (.slice none 0 0) 0 [] := by
  intro W ty v n xs hW hn hown
  refine ⟨v, W, ?_, by simpa using hown, ⟨rfl, rfl, rfl, Nat.le_refl _, fun _ _ _ => rfl⟩, fun k hk => .inl hk⟩
  rcases hown.2 with ⟨rfl, rfl⟩ | ⟨g, cap, cur, rfl, hb, hg, hnc, hcm, hcs, htk⟩
  · kernel_rfl
  · obtain ⟨i0, hi, hz0, hz1, hz2⟩ := info_parts Try.infoW
    have hz3 : n < 9223372036854775808 := by omega
    simp [Builtin.append_, run_underlying Try.underlying45, sizeOf, typeInfo, zeroValue, hi, hz0, hz1, Builtin.firstCells, Builtin.lenOf, hnc, storeCells]
theorem cut_lo {W : World} {g n co i : Nat} (hi : i ≤ co) : (Instr.sliceAt 45 (.slice (some ⟨g, 0, none⟩) n co) none (some (.int .i64 (i : Int))) none).run Try.prog W = .ok (.slice (some ⟨g, 0, none⟩) i co) W := by
  have hz : (i : Int) ≤ (co : Int) := by omega
  unfold Instr.sliceAt
  go_simp
theorem cut_hi {W : World} {g n co i : Nat} (hi : i ≤ n) (hn : n ≤ co) : (Instr.sliceAt 45 (.slice (some ⟨g, 0, none⟩) n co) (some (.int .i64 (i : Int))) none none).run Try.prog W = .ok (.slice (some (if co = i then ⟨g, 0, none⟩ else ⟨g, i * 2, none⟩)) (n - i) (co - i)) W := by
  have hz : (i : Int) ≤ (n : Int) := by omega
  unfold Instr.sliceAt
  go_simp
  split <;> rfl
theorem cut_nil {W : World} : (Instr.sliceAt 45 (.slice none 0 0) none (some (.int .i64 0)) none).run Try.prog W = .ok (.slice none 0 0) W := by
  kernel_rfl
theorem cut_nil2 {W : World} : (Instr.sliceAt 45 (.slice none 0 0) (some (.int .i64 0)) none none).run Try.prog W = .ok (.slice none 0 0) W := by
  kernel_rfl
theorem newsW_take {w : World} {B g cap n : Nat} {L : List Wr} (h : w.ownsRow B 50 2 (.slice (some ⟨g, 0, none⟩) n cap) n (flatI L)) (k : Nat) : ∀ j u, (flatI (L.take k))[j]? = some u → w.cell? ((⟨g, 0, none⟩ : Addr).add j) = some u := by
  intro j u hu
  refine h.cells (g := g) rfl j u ?_
  rw [← List.take_append_drop k L, flatI_append, List.getElem?_append_left (List.getElem?_eq_some_iff.1 hu).1]
  exact hu
theorem newsW_drop {w : World} {B g cap n : Nat} {L : List Wr} (h : w.ownsRow B 50 2 (.slice (some ⟨g, 0, none⟩) n cap) n (flatI L)) (k : Nat) (hk : k ≤ L.length) : ∀ j u, (flatI (L.drop k))[j]? = some u → w.cell? ((⟨g, k * 2, none⟩ : Addr).add j) = some u := by
  intro j u hu
  have hadd : ∀ o j, (⟨g, o, none⟩ : Addr).add j = ⟨g, o + j, none⟩ := fun o j => by unfold Addr.add; split <;> simp_all
  have := h.cells (g := g) rfl (k * 2 + j) u (by
    rw [← List.take_append_drop k L, flatI_append, List.getElem?_append_right (by rw [flatI_length, List.length_take]; omega), flatI_length, List.length_take, show k * 2 + j - min k L.length * 2 = j by omega]
    exact hu)
  rw [hadd] at this ⊢
  rw [← this]; congr 2; omega
theorem flatI_one (L : List Wr) : ∀ u ∈ flatI L, u.oneCell' = true := by
  induction L with
  | nil => intro u h; cases h
  | cons x r ih =>
    intro u h
    simp only [flatI, List.mem_cons] at h
    rcases h with rfl | rfl | h
    · rfl
    · rfl
    · exact ih u h

/-- What of a row is ahead of a place, and what is behind it: cut off, and as what is appended. -/
theorem dirty_ap {X : World} {B : Nat} {ao : Option Addr} {co i : Nat} {M : List Wr} (hO : OwnW B X (.slice ao M.length co) M) (hi : i ≤ M.length) (hB : B ≤ X.heap.size) (hl : M.length ≤ 50000) :
    ∃ fv rv, (∀ W : World, Below X.heap.size X W → (Instr.sliceAt 45 (.slice ao M.length co) none (some (.int .i64 (i : Int))) none).run Try.prog W = .ok fv W) ∧ (∀ W : World, Below X.heap.size X W → (Instr.sliceAt 45 (.slice ao M.length co) (some (.int .i64 (i : Int))) none none).run Try.prog W = .ok rv W) ∧
      AppOK X B fv i (flatI (M.take i)) ∧ AppOK X B rv (M.length - i) (flatI (M.drop i)) := by
  have e1 : (flatI (M.take i)).length = i * 2 := by rw [flatI_length, List.length_take]; omega
  have e2 : (flatI (M.drop i)).length = (M.length - i) * 2 := by rw [flatI_length, List.length_drop]
  rcases hO.2 with ⟨hv, hm0⟩ | ⟨g, cap, cur, hv, hgB, hgh, hgc, hgm, _⟩
  · have hM : M = [] := List.eq_nil_of_length_eq_zero hm0
    subst hM
    obtain ⟨rfl, rfl⟩ : ao = none ∧ co = 0 := by simpa using hv
    obtain rfl : i = 0 := by simpa using hi
    exact ⟨_, _, fun W _ => cut_nil, fun W _ => cut_nil2, appOK_nil, appOK_nil⟩
  · obtain ⟨rfl, rfl⟩ : ao = some ⟨g, 0, none⟩ ∧ co = cap := by simpa using hv
    refine ⟨_, _, fun W _ => cut_lo (by omega), fun W _ => cut_hi hi hgc, appOK_some hB e1 (by omega) (fun W hW => newsW_take (hO.below hW) i) (flatI_one _), ?_⟩
    by_cases hc : co = i
    · have hd : M.drop i = [] := List.drop_eq_nil_of_le (by omega)
      rw [hd]
      exact appOK_some hB (by simp [flatI]; omega) (by omega) (fun W hW j u hu => by simp [flatI] at hu) (by simp [flatI])
    · rw [if_neg hc]
      exact appOK_some hB e2 (by omega) (fun W hW => newsW_drop (hO.below hW) i hi) (flatI_one _)
end Go.Proofs.Yteeoglfgilabaaa
