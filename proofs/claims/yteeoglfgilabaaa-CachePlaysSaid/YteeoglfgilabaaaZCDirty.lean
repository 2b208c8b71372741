/- What Dirty answers and leaves. -/
import Derived.Test.YteeoglfgilabaaaZCSort
import Derived.Test.YteeoglfgilabaaaZCDrop
import Derived.Test.YteeoglfgilabaaaZCBase
import Derived.Shelf.SlSortCmp.NoneTotal

namespace Go.Proofs.Yteeoglfgilabaaa
open Go.RowKit

theorem sort_none (ao : Option Addr) (c : Nat) (fv : Value) (w : World) : Calls Try.prog 37 #[.slice ao 0 c, fv] w fun e w' => e = .returned (.tuple #[]) ∧ w' = w := AnyF.slices_SortFunc_none Try.sortW ao c fv w
theorem rise_of {M D : List Wr} (hp : M.Perm D) (hs : M.Pairwise fun a b => a.1 ≤ b.1) (hn : (D.map fun x => x.1).Nodup) : Rise M := by
  have hn' : (M.map fun x => x.1).Nodup := (hp.map _).nodup_iff.2 hn
  have h2 : M.Pairwise fun a b => a.1 ≠ b.1 := List.pairwise_map.1 hn'
  exact (hs.and h2).imp fun {a b} ⟨h1, h2⟩ => by omega
theorem dirty_is {C : CS} (ok : C.Ok) {M M' : List Wr} (h1 : M'.Perm M) (h2 : M.Perm (dls C.L)) (hs : M'.Pairwise fun a b => a.1 ≤ b.1) : M' = C.dirty :=
  rise_eq ((h1.trans h2).trans C.dirty_perm.symm) (rise_of (h1.trans h2) hs (dls_nodup ok.nodup)) (CS.dirty_rise ok.nodup)
theorem dls_len (L : List Kp) : (dls L).length ≤ L.length := by unfold dls; rw [List.length_map]; exact List.length_filter_le _ _
theorem seen_len (L : List Kp) (left : Lit → Bool) : (seen L left).length ≤ L.length := Nat.le_trans (List.length_filter_le _ _) (dls_len L)
section
variable {S : Nat → Prop} {w w' : World} {p : Nat} {src : Value} {C : CS}
set_option maxRecDepth 100000 in
set_option maxHeartbeats 4000000 in
theorem dirty_any (h : Cch S w p src C) : Calls Try.prog 17 #[.pointer (some ⟨p, 0, none⟩)] w fun e w' => ∃ v, e = .returned v ∧ Hid (SlW w' v C.dirty) ∧ Hid (Below w.heap.size w w') ∧ Hid (∀ k, v.ownBlock = some k → w.heap.size ≤ k) := by
  obtain ⟨bm, ov, h⟩ := h
  obtain ⟨i0, hi, hz0, hz1, hz2⟩ := info_parts Try.infoW
  have HZ2 := Lib.hid hz2
  clear hz2
  have c2 := h.raw.c2
  have hown : w.ownsMap Try.prog 3 stE bm C.L.length (toD C.L) := h.map
  have HOK := Lib.hid h.ok
  have hbm := h.map.lt
  have HLL : Hid (C.L.length ≤ 1024) := by show _ ≤ _; have := h.ok.len; have := h.ok.m1; omega
  clear h
  go_enter Try.func17, Try.ntmps17
  go_wp2_with (first
    | (at_range; refine wpList_range_own _ rfl _ 64 rfl 3 71 klaw Try.underlying64 stE bm C.L.length _ rfl hown ?_; intro w0 hrg0 hg0 hs0)
    | go_in)
  go_frame
  have HRG0 := Lib.hid hrg0
  have HB0 : Hid (Below w.heap.size w w0) := ⟨hg0.os, hg0.tape, hg0.output, hg0.size, fun i hi => hg0.block i hi (by simp)⟩
  clear hrg0 hg0 hown c2
  go_loopw [3, 4, 5] (fun lv _ _ wr => ∃ (left : Lit → Bool) (cnt : Nat) (M : List Wr), Hid (wr.ranges Try.prog 3 stE bm w.heap.size C.L.length (toD C.L) left cnt) ∧ Hid (Below w.heap.size w wr) ∧ Hid (OwnW (w.heap.size + 1) wr lv M) ∧ Hid (M.Perm (seen C.L left)))
    (fun _ _ _ wr => wr.rangeLeft bm w.heap.size)
  case atStart => exact ⟨_, _, [], HRG0.out, HB0.out, OwnW.nil _ _, (show List.Perm _ _ by rw [seen_start])⟩
  case round =>
    clear HRG0 HB0
    obtain ⟨left, cnt, M, HRG, HB, HO, HPM⟩ := hrel
    have hml : M.length ≤ 1024 := by rw [HPM.out.length_eq]; exact Nat.le_trans (seen_len _ _) HLL.out
    obtain ⟨ao, cap, hlv⟩ := own_shape HO.out
    subst hlv
    go_wp2_with (first
      | (at_next; refine wpList_next_st _ rfl _ rfl bm w.heap.size C.L.length _ _ _ rfl HRG.out ?_ ?_)
      | go_in)
    · intro HL0
      have HPE : Hid (M.Perm (dls C.L)) := by show List.Perm _ _; rw [← seen_end C.L HL0.out]; exact HPM.out
      have hsz := HB.out.size
      cases M with
      | nil =>
        have G := Lib.hid (sort_none ao cap (.func (.func 38) #[] #[]) wr)
        have HD : Hid (SlW wr (.slice ao 0 cap) C.dirty) := by
          show SlW _ _ _
          rw [← dirty_is HOK.out (List.Perm.refl _) HPE.out List.Pairwise.nil]
          exact ⟨ao, cap, rfl, .inl rfl⟩
        rw [List.length_nil]
        go_wp2_with fail
        refine G.out.mono ?_
        rintro e w2 ⟨rfl, rfl⟩
        have HOB : Hid (∀ k, (Value.slice ao 0 cap).ownBlock = some k → w.heap.size ≤ k) := fun k e => by have := (HO.out.lt k e).1; omega
        go_wp2
        go_ret
        exact ⟨_, rfl, HD.out, HB.out, HOB.out⟩
      | cons x0 M0 =>
        obtain ⟨g, cap', hv⟩ := own_succ (n := M0.length) HO.out
        obtain ⟨rfl, rfl⟩ : ao = some ⟨g, 0, none⟩ ∧ cap = cap' := by simpa using hv
        have hg1 := (HO.out.lt g rfl).1
        have G := Lib.hid (sort_some HO.out (by omega))
        have HDD : Hid (∀ M' W, M'.Perm (x0 :: M0) → M'.Pairwise (fun a b => a.1 ≤ b.1) → SlW W (.slice (some ⟨g, 0, none⟩) (x0 :: M0).length cap) M' → SlW W (.slice (some ⟨g, 0, none⟩) (x0 :: M0).length cap) C.dirty) := by
          intro M' W h1 h2 h3
          rw [← dirty_is HOK.out h1 HPE.out h2]; exact h3
        clear hv HO HPM HRG HPE
        generalize (x0 :: M0) = M at *
        generalize M.length = n at *
        go_wp2_with fail
        refine G.out.mono ?_
        rintro e w2 ⟨rfl, M', h1, h2, h3, h4⟩
        have HD := Lib.hid (HDD.out M' w2 h1 h2 h3)
        have HB2 : Hid (Below w.heap.size w w2) := HB.out.trans (h4.below hsz (fun k _ e => by subst e; omega))
        clear h1 h2 h3 h4 G HDD
        go_wp2
        go_ret
        exact ⟨_, rfl, HD.out, HB2.out, (show ∀ k, _ → _ from fun k e => by simp [Value.ownBlock] at e; omega)⟩
    · rintro x ⟨s, d, m⟩ w1 cnt1 HX hen
      obtain ⟨hxi, hlx, hat, hrg1, hlt, hg1, hs1⟩ := HX.out
      obtain ⟨y, hy, hyk, hyd, hydd⟩ := entry_is HOK.out.nodup HOK.out.wf hat
      have hwl := HRG.out.lt
      have hsz := HB.out.size
      obtain ⟨W, hW, l0, l1, l2, hb⟩ := st_new w1 s d m
      have HRG2 := Lib.hid (hrg1.kept (below_grown hb) (by simp) (by simp))
      have HB1 : Hid (Below w.heap.size w w1) := HB.out.trans ⟨hg1.os, hg1.tape, hg1.output, hg1.size, fun i hi => hg1.block i (by omega) (by simp; omega)⟩
      have HB2 : Hid (Below w.heap.size w W) := HB1.out.trans (hb.mono HB1.out.size)
      have HO1 : Hid (OwnW (w.heap.size + 1) W (.slice ao M.length cap) M) := by
        have h1 : OwnW (w.heap.size + 1) w1 (.slice ao M.length cap) M := by
          refine ⟨HO.out.1, ?_⟩
          rcases HO.out.2 with hn | ⟨g, c', cur, hv, hbg, hg, rest⟩
          · exact .inl hn
          · exact .inr ⟨g, c', cur, hv, hbg, by rw [hg1.block g (Array.getElem?_eq_some_iff.1 hg).1 (by simp; omega)]; exact hg, rest⟩
        exact h1.below hb
      have HLT := Lib.hid hlt
      have HSZ : Hid (w.heap.size + 1 ≤ W.heap.size) := by
        show _ ≤ _
        have := hb.size
        have := hs1
        omega
      subst hyk hyd
      cases d
      · have HPM2 : Hid (M.Perm (seen C.L (fun z => left z && !z.sameKey (kl y.key)))) := by show List.Perm _ _; rw [seen_clean HOK.out.nodup hy hydd]; exact HPM.out
        clear hxi hlx hat hrg1 hlt hg1 hs1 hb HX HO HB HPM hy hydd
        go_wp2
        go_roundw
        case rel => exact ⟨_, cnt1, M, HRG2.out, HB2.out, HO1.out, HPM2.out⟩
        case measure => rw [HRG2.out.left_eq, HRG.out.left_eq]; exact HLT.out
      · have HPM2 : Hid ((M ++ [(y.key, y.data)]).Perm (seen C.L (fun z => left z && !z.sameKey (kl y.key)))) := (HPM.out.append_right _).trans (seen_dirty HOK.out.nodup hy hlx hydd).symm
        clear hxi hlx hat hrg1 hlt hg1 hs1 hb HX HO HB HPM hy hydd
        generalize y.key = yk at *
        generalize y.data = ys at *
        go_wp2_with (at_builtin; go_loud (refine wpList_append_own _ rfl _ _ 45 rfl (w.heap.size + 1) 50 i0 _ 2 24 Try.underlying45 hi hz0 hz1 HZ2.out rfl (by decide) _ _ _ rfl (HO1.out.alloc _) _ 1 1 [.int .i64 yk, .string ys] rfl rfl (two_cells rfl) two_one ?c3 ?c4 ?c5 ?_))
        case c3 => unfold maxLen; omega
        case c4 => omega
        case c5 => have := HSZ.out; simp; omega
        intro v1 w3 hown hgrow _
        have hbX : Below W.heap.size W (W.alloc (.cells #[.int .i64 yk, .string ys] 50)) := (Below.refl _ _).alloc (Nat.le_refl _) _
        have HRG3 := HRG2.out.kept (below_grown hbX) (by simp) (by simp)
        have HRG4 := Lib.hid (HRG3.kept hgrow (by intro e; have := (HO1.out.lt _ (by first | exact e | exact e.symm)).1; omega) (by intro e; have := (HO1.out.lt _ (by first | exact e | exact e.symm)).1; omega))
        have HB3 : Hid (Below w.heap.size w w3) := (HB2.out.trans (hbX.mono HB2.out.size)).grown hgrow (by have := HSZ.out; simp; omega) (fun q hq => by have := (HO1.out.lt q hq).1; omega)
        have HO3 := Lib.hid (own_pushW hown)
        clear hown hgrow hbX HRG3
        go_wp2
        go_roundw
        case rel => exact ⟨_, cnt1, _, HRG4.out, HB3.out, HO3.out, HPM2.out⟩
        case measure => rw [HRG4.out.left_eq, HRG.out.left_eq]; exact HLT.out
end
end Go.Proofs.Yteeoglfgilabaaa
