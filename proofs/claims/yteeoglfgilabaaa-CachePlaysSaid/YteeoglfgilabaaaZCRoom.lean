/- What makeRoom answers and leaves. -/
import Derived.Test.YteeoglfgilabaaaZCBack
import Derived.Test.YteeoglfgilabaaaZCBase
import Derived.Test.YteeoglfgilabaaaZCInv
import Derived.Deep.QuietTactic
import Derived.BigQuiet
import Derived.IntWalk
import Derived.RegionIn

namespace Go.Proofs.Yteeoglfgilabaaa
open Go.RowKit Go.Shelf Go.Maps
attribute [local go_sem] Oper.semAt_some

set_option maxHeartbeats 1000000 in
theorem back_in (n : Nat) (a : Option Addr) (len cap : Nat) (w : World) :
    CallsIn Fence.wide n Try.prog 66 #[.slice a len cap] w fun e w' => e = .returned (.func (.func 73) #[] #[.pointer (some ⟨w.heap.size, 0, none⟩)]) ∧ w' = w.alloc (.cells #[.slice a len cap] 43) := by
  refine callsIn_of_wp Try.func66 rfl trivial ?_ rfl
  simp only [Try.ntmps66, List.size_toArray, List.length_cons, List.length_nil, Nat.reduceAdd, Nat.reduceSub, Array.replicate_succ, Array.replicate_zero, List.push_toArray, List.append_toArray, List.nil_append, List.cons_append]
  gi_wp2
  go_ret
  exact ⟨rfl, rfl⟩
theorem back_stops (n : Nat) (hn : 1 ≤ n) (Bs n₀ g cap : Nat) (O : List Int) (h0 : 0 < O.length) (hlen : O.length ≤ 5000) (hb : g < n₀) (hBn : Bs < n₀) (w : World) (hn₀ : n₀ ≤ w.heap.size) (hBs : w.cell? ⟨Bs, 0, none⟩ = some (.slice (some ⟨g, 0, none⟩) O.length cap)) (hc : ∀ j (h : j < O.length), w.cell? ⟨g, j, none⟩ = some (.int .i64 O[j])) :
    SeqStopsK Fence.wide n Try.prog 73 #[.pointer (some ⟨Bs, 0, none⟩)] (bEnc O) (Below n₀) (fun ys => ys = bw O.length) (fun pre => ∃ k, k ≤ O.length ∧ pre = (bw O.length).take k) O.length w := fun l J Jx W hW _ _ hY hj0 =>
  back1_in n hn l Bs n₀ g cap O h0 hlen hb J Jx hY W hBn ((hW.cell (p := ⟨Bs, 0, none⟩) (by show Bs < _; omega)).trans hBs) (fun j h => (hW.cell (p := ⟨g, j, none⟩) (by show g < _; omega)).trans (hc j h)) hj0

theorem box_pair (w : World) (p : Nat) : ∃ W, (w.alloc (.cells #[.pointer (some ⟨p, 0, none⟩)] 24)).alloc (.cells #[.int .i64 0] 25) = W ∧ W.cell? ⟨w.heap.size, 0, none⟩ = some (.pointer (some ⟨p, 0, none⟩)) ∧ W.cell? ⟨w.heap.size + 1, 0, none⟩ = some (.int .i64 0) ∧ W.frozen? ⟨w.heap.size + 1, 0, none⟩ = false ∧ Below w.heap.size w W ∧ W.heap.size = w.heap.size + 2 := by
  have hs : (w.alloc (.cells #[.pointer (some ⟨p, 0, none⟩)] 24)).heap.size = w.heap.size + 1 := by simp
  have e0 : (w.alloc (.cells #[.pointer (some ⟨p, 0, none⟩)] 24)).cell? ⟨w.heap.size, 0, none⟩ = some (.pointer (some ⟨p, 0, none⟩)) := by rw [World.cell?_alloc_mark]; rfl
  refine ⟨_, rfl, ?_, ?_, ?_, ((Below.refl _ _).alloc (Nat.le_refl _) _).alloc (by simp) _, by simp⟩
  · rw [World.cell?_of_block (w := w.alloc (.cells #[.pointer (some ⟨p, 0, none⟩)] 24)) (Below.heap_alloc _ _ _ (by simp))]; exact e0
  · rw [← hs, World.cell?_alloc_mark]; rfl
  · rw [← hs, World.frozen?_alloc_mark]; rfl
section
variable {S : Nat → Prop} {w w' : World} {p bm : Nat} {src ov : Value} {C C' : CS}
set_option maxRecDepth 100000 in
set_option maxHeartbeats 1000000 in
theorem room_has (h : CB S w p bm src ov C) (hl : C.L.length < C.most) :
    Calls Try.prog 54 #[.pointer (some ⟨p, 0, none⟩)] w fun e w' => e = .returned (.int .i64 0) ∧ Below w.heap.size w w' := by
  obtain ⟨ao, cap, hov⟩ := own_shape h.raw.hr
  rw [keys_len] at hov
  subst hov
  have hb := Lib.hid h
  have hm1 := h.ok.m1
  have c1 := h.raw.c1
  have c3 := h.raw.c3
  have hlt := h.raw.lt
  generalize C.L.length = n at *
  generalize C.most = m at *
  have hz : (n : Int) < (m : Int) := by omega
  obtain ⟨W, hW, l0, l1, f1, hbl, hsz⟩ := box_pair w p
  have d1 := (hbl.cell (p := ⟨p, 1, none⟩) hlt).trans c1
  have d3 := (hbl.cell (p := ⟨p, 3, none⟩) hlt).trans c3
  have HBL := Lib.hid hbl
  clear h hbl c1 c3 hsz
  go_enter Try.func54, Try.ntmps54
  go_wp2
  clear hW
  go_quiet (fail)
  go_wp2
  have hr : ((W.drewN nq).setCell ⟨w.heap.size + 1, 0, none⟩ (.int .i64 0)).cell? ⟨w.heap.size + 1, 0, none⟩ = some (.int .i64 0) := World.cell?_setCell_same' _ _ _ (by show (W.cell? _).isSome = true; rw [l1]; rfl)
  refine bodyPost_ret (v := .int .i64 0) (by simp [results, Try.f54, go_sem, hr]) rfl ⟨rfl, ?_⟩
  exact (HBL.out.trans (below_drewN (Below.refl _ _) nq)).setCell (by show w.heap.size ≤ w.heap.size + 1; omega) _

end
theorem bw_last {n k : Nat} {ini : List (Fin n)} {last : Fin n} (hk : k ≤ n) (e : (bw n).take k = ini ++ [last]) (y : Fin n) (hy : last.1 < y.1) : y ∈ ini := by
  cases k with
  | zero => simp at e
  | succ k =>
    rw [bw_take n k (by omega)] at e
    obtain ⟨rfl, e2⟩ := List.append_inj' e rfl
    have e3 : (⟨n - 1 - k, by omega⟩ : Fin n) = last := by simpa using e2
    rw [← e3] at hy
    simp only at hy
    have hj : n - 1 - y.1 < k := by omega
    refine List.mem_iff_getElem.2 ⟨n - 1 - y.1, by rw [List.length_take, bw_length]; omega, ?_⟩
    rw [List.getElem_take, bw_get n _ (by omega)]
    exact Fin.ext (by simp; omega)
theorem keepsFrom_only {T : Nat → Prop} {B : Nat} {W W' : World} (h : Only T W W') (hT : ∀ k, T k → k < B) : KeepsFrom B W W' :=
  ⟨h.size, fun k o hB hk _ => (h.block k (Array.getElem?_eq_some_iff.1 hk).1 (fun t => by have := hT k t; omega)).trans hk⟩
theorem grown_only {W W' : World} {row : Option Nat} (h : W.grownBy W' row) : Only (fun k => row = some k) W W' :=
  ⟨h.os, h.tape, h.output, h.size, fun k hk hne => h.block k hk (fun e => hne e.symm)⟩
section
variable {F : Fence} {nF : Nat} {ops : Array Oper} {rest : List Oper} {o : Oper} {a : Act} {Q : Exit → Act → World → Prop} {b : Nat} {L : List Kp} {i : Int}
theorem wpListIn_has_yes (w : World) (hg : o.guard = none) (m x : Operand) (hop : o.op = Op.lookup 64 m x false) (hm : a.eval m = .map (some b)) (hx : a.eval x = .int .i64 i) (h : MapL w b L) (hn : (keys L).Nodup) (hw : Wf L) (k : Nat) (y : Kp) (hf : fx L i = some (k, y))
    (hK : wpListIn F nF Try.prog ops Q rest (a.put o.dst (.agg #[.string y.data, .bool y.dirty, .int .i64 (y.pins : Int)])) w) : wpListIn F nF Try.prog ops Q (o :: rest) a w := by
  obtain ⟨hk, h1, h2, _⟩ := fx_some hf
  have hi : -9223372036854775808 ≤ i ∧ i ≤ 9223372036854775807 := by rw [← h2]; exact hw y (fx_mem hf)
  refine wpListIn_plain hg fun K' hK' => ?_
  obtain ⟨v, ps, hrun, hv⟩ := World.ownsMap.lookup h klaw Try.underlying64 (zeroSt w) (stE_mk ⟨#[]⟩ false 0) (keyI hi)
  rw [atKey_yes hn hw hf] at hv
  rw [stE_dat hv] at hrun
  unfold Oper.wpIn
  refine ⟨by simp [Oper.about, hop], ?_⟩
  rw [Oper.semAt_plain F _ _ (by rw [hop]; intro c hc'; cases hc')]
  simp [execOp, hop, hm, hx, hrun, Result.andThen]
  exact hK' _ _ hK
theorem wpListIn_del (w : World) (hg : o.guard = none) (m x : Operand) (hop : o.op = Op.call { callee := Callee.builtin Builtin.delete, args := #[m, x], argTypes := #[64, 3] }) (hm : a.eval m = .map (some b)) (hx : a.eval x = .int .i64 i) (h : MapL w b L) (hi : -9223372036854775808 ≤ i ∧ i ≤ 9223372036854775807) (M : List Kp)
    (hdel : (toD L).del (kl i) = toD M) (hK : ∀ w', Hid (MapL w' b M) → Hid (Only (fun k => k = b) w w') → wpListIn F nF Try.prog ops Q rest (a.put o.dst (.tuple #[])) w') : wpListIn F nF Try.prog ops Q (o :: rest) a w := by
  refine wpListIn_delete_own w hg m x 64 3 hop 71 klaw Try.underlying64 stE b L.length (toD L) hm h _ (kl i) hx (keyI hi) (fun w' hown hturn => ?_)
  rw [hdel] at hown
  exact hK w' (show MapL _ _ _ from MapL.of hown) (show Only _ _ _ from only_grown hturn.grown)
end
section
variable {S : Nat → Prop} {w w' : World} {p bm : Nat} {src ov : Value} {C C' : CS}
/-- Which may go. -/
def frK (C : CS) (y : Fin (keys C.L).length) : Bool := (C.L[y.1]'(by rw [← keys_len]; exact y.2)).free
def RoomI (C : CS) (w0 : World) (pre : List (Fin (keys C.L).length)) (W : World) : Prop := (∀ y ∈ pre, frK C y = false) ∧ Below w0.heap.size w0 W
def RoomX (S : Nat → Prop) (C : CS) (w0 : World) (p bm rb : Nat) (src : Value) (c : Code) (pre : List (Fin (keys C.L).length)) (W : World) : Prop :=
  c = .ret ∧ ∃ ini last, pre = ini ++ [last] ∧ (∀ y ∈ ini, frK C y = false) ∧ frK C last = true ∧ (∃ ov', CB S W p bm src ov' { C with L := C.L.eraseIdx last.1 }) ∧ W.cell? ⟨rb, 0, none⟩ = some (.int .i64 0) ∧ Only (fun k => S k ∨ k = rb) w0 W
theorem frame_eq {A T : Array Value} {k : Nat} (h : A.toList.take k = T.toList.take k) (d : Nat) (hd : d < k) : A.getD d undef = T.getD d undef := by
  have h1 := congrArg (fun l => l[d]?) h
  simp only [List.getElem?_take, hd, if_true, Array.getElem?_toList] at h1
  rw [Array.getD_eq_getD_getElem?, Array.getD_eq_getD_getElem?, h1]
theorem ok_erase {C : CS} (ok : C.Ok) (k : Nat) : ({ C with L := C.L.eraseIdx k } : CS).Ok := by
  have hs : (C.L.eraseIdx k).Sublist C.L := List.eraseIdx_sublist _ _
  exact ⟨ok.nodup.sublist (hs.map _), Nat.le_trans hs.length_le ok.len, ok.m0, ok.m1, ok.ms, fun z hz => ok.wf z (hs.subset hz), fun z hz => ok.ds z (hs.subset hz), fun z hz => ok.pn z (hs.subset hz)⟩
/-- Behind the deletion in the map, the one in the row, and the two stores. -/
theorem room_end {WA w3 w4 : World} {g cap rb k : Nat} (h : CB S WA p bm src (.slice (some ⟨g, 0, none⟩) (keys C.L).length cap) C) (hm : MapL w3 bm (C.L.eraseIdx k)) (ho3 : Only (fun j => j = bm) WA w3) {hb : Nat} (hM : DelM w3 w4 p g hb cap (keys C.L) k) (hk : k < (keys C.L).length)
    (hrp : rb ≠ p) (hrg : rb ≠ g) (hrb : rb ≠ bm) (ok : ({ C with L := C.L.eraseIdx k } : CS).Ok) :
    CB S ((w4.setCell ⟨p, 3, none⟩ (.slice (some ⟨g, 0, none⟩) ((keys C.L).length - 1) cap)).setCell ⟨rb, 0, none⟩ (.int .i64 0)) p bm src (.slice (some ⟨g, 0, none⟩) ((keys C.L).length - 1) cap) { C with L := C.L.eraseIdx k } ∧
      Only (fun j => S j ∨ j = rb) WA ((w4.setCell ⟨p, 3, none⟩ (.slice (some ⟨g, 0, none⟩) ((keys C.L).length - 1) cap)).setCell ⟨rb, 0, none⟩ (.int .i64 0)) := by
  have hpb : ¬ p = bm := fun e => h.bp e.symm
  have hpg : ¬ p = g := fun e => h.raw.rp (by rw [e]; rfl)
  have hbg : ¬ bm = g := fun e => h.rb (by rw [e]; rfl)
  have hsz3 := ho3.size
  have hsz4 := hM.only.size
  have hpl := h.raw.lt
  have hbl := h.map.lt
  have hkl : (keys (C.L.eraseIdx k)).length = (keys C.L).length - 1 := by rw [keys_erase, List.length_eraseIdx, if_pos hk]
  have hp4 : w4.heap[p]? = some (.cells #[src, .int .i64 (C.most : Int), .map (some bm), .slice (some ⟨g, 0, none⟩) (keys C.L).length cap, .int .i64 (C.misses : Int)] 66 (0, 0)) := by
    rw [hM.only.block p (by omega) hpg, ho3.block p hpl hpb]; exact h.raw.hp
  have hon : Only (fun j => S j ∨ j = rb) WA w4 := (ho3.mono (fun j _ e => .inl (e ▸ h.sb))).trans hM.only (fun j _ e => .inl (h.sr j (by rw [e]; rfl)))
  refine ⟨⟨ok, ⟨?_, ?_, h.raw.rp⟩, hm.kept ?_, h.bp, h.rb, h.sp, h.sb, h.sr, ?_⟩, (hon.setCell (fun _ => .inl h.sp) _).setCell (fun _ => .inr rfl) _⟩
  · rw [Below.heap_setCell _ _ _ _ (Ne.symm hrp), heap_setCell_at hp4]; rfl
  · have hr := hM.row
    rw [← keys_erase] at hr
    show World.ownsRow _ 0 _ 1 _ (keys (C.L.eraseIdx k)).length _
    rw [hkl]
    exact ownsRow_setCell_other (ownsRow_setCell_other hr (by simpa [Value.ownBlock] using fun e => hpg e.symm) _) (by simpa [Value.ownBlock] using fun e => hrg e.symm) _
  · rw [Below.heap_setCell _ _ _ _ (Ne.symm hrb), Below.heap_setCell _ _ _ _ (Ne.symm hpb), hM.only.block bm (by omega) hbg]
  · intro j hj
    have := h.lt j hj
    simp [World.setCell]
    omega
theorem roomI_own (C : CS) (w0 : World) : OwnFrom w0.heap.size (RoomI C w0) := fun s A B row hs hg hr => ⟨hs.1, hs.2.grown hg hs.2.size (fun k e => (hr k e).1)⟩
theorem roomX_own {S : Nat → Prop} {C : CS} {w0 : World} {p bm rb : Nat} {src : Value} (hS : ∀ k, S k → k < w0.heap.size) (hrb : rb < w0.heap.size) (c : Code) : OwnFrom w0.heap.size (RoomX S C w0 p bm rb src c) := by
  rintro s A B row ⟨hc, ini, last, e1, e2, e3, ⟨ov', hB⟩, e4, e5⟩ hg hr
  have ho := grown_only hg
  have hne : ∀ k, k < w0.heap.size → ¬ row = some k := fun k hk e => by have := (hr k e).1; omega
  refine ⟨hc, ini, last, e1, e2, e3, ⟨ov', hB.kept ho (fun k hk => hne k (hS k hk))⟩, ?_, e5.trans ho (fun i hi e => absurd e (hne i hi))⟩
  exact cell_kept e4 hg (fun r e => (hr r e).2)
set_option maxRecDepth 100000 in
set_option maxHeartbeats 1000000 in
theorem room_makes (h : CB S w p bm src ov C) (hl : ¬ C.L.length < C.most) :
    Calls Try.prog 54 #[.pointer (some ⟨p, 0, none⟩)] w fun e w' => Only S w w' ∧ ((∃ k ov', lf C.L = some k ∧ e = .returned (.int .i64 0) ∧ CB S w' p bm src ov' { C with L := C.L.eraseIdx k }) ∨ (lf C.L = none ∧ e = .returned (.int .i64 14) ∧ CB S w' p bm src ov C)) := by
  have hm0 := h.ok.m0
  have hm1 := h.ok.m1
  have hln := h.ok.len
  have hkl := keys_len C.L
  obtain ⟨g, cap, cur, hov, hjunk⟩ := row_form h.raw.hr (by omega)
  clear hjunk cur
  have hN0 : 0 < (keys C.L).length := by omega
  have hN1 : (keys C.L).length ≤ 5000 := by omega
  subst hov
  have HB := Lib.hid h
  have c1 := h.raw.c1
  have c3 := h.raw.c3
  have hlt := h.raw.lt
  have hgl : g < w.heap.size := (h.raw.hr.lt g rfl).2
  have HS := Lib.hid h.lt
  have hz : ¬ ((keys C.L).length : Int) < (C.most : Int) := by omega
  obtain ⟨W, hW, l0, l1, f1, hbl, hsz⟩ := box_pair w p
  have d1 := (hbl.cell (p := ⟨p, 1, none⟩) hlt).trans c1
  have d3 := (hbl.cell (p := ⟨p, 3, none⟩) hlt).trans c3
  have HBL := Lib.hid hbl
  have HZ := Lib.hid hsz
  clear h hbl c1 c3 hsz hkl hln
  refine (callsIn_wide (n := 5)).1 ?_
  refine callsIn_of_wp_marks Try.func54 rfl trivial ?_ rfl
  simp only [Try.ntmps54, List.size_toArray, List.length_cons, List.length_nil, Nat.reduceAdd, Nat.reduceSub, Array.replicate_succ, Array.replicate_zero, List.push_toArray, List.append_toArray, List.nil_append, List.cons_append]
  gi_wp2
  clear hW
  refine wpIn_wide.2 ?_
  go_quiet (fail)
  have d3' : (W.drewN nq).cell? ⟨p, 3, none⟩ = some (.slice (some ⟨g, 0, none⟩) (keys C.L).length cap) := d3
  gi_wp2_with (refine ⟨trivial, ?_⟩; gi_at_call 66; refine (back_in _ _ _ _ _).mono ?_; rintro e w' ⟨rfl, rfl⟩)
  obtain ⟨w0, hw0⟩ : ∃ w0, (W.drewN nq).alloc (.cells #[.slice (some ⟨g, 0, none⟩) (keys C.L).length cap] 43) = w0 := ⟨_, rfl⟩
  have hbw : Below w.heap.size w w0 := by rw [← hw0]; exact (HBL.out.trans (below_drewN (Below.refl _ _) nq)).alloc (by show w.heap.size ≤ W.heap.size; have := HZ.out; omega) _
  have hbW : Below W.heap.size W w0 := by rw [← hw0]; exact (below_drewN (Below.refl _ _) nq).alloc (Nat.le_refl _) _
  have hsz0 : w0.heap.size = w.heap.size + 3 := by rw [← hw0]; have := HZ.out; simp; exact this
  have hbs : w0.cell? ⟨w.heap.size + 2, 0, none⟩ = some (.slice (some ⟨g, 0, none⟩) (keys C.L).length cap) := by
    have e : (W.drewN nq).heap.size = w.heap.size + 2 := HZ.out
    rw [← hw0, ← e, World.cell?_alloc_mark]; rfl
  have m0 : w0.cell? ⟨w.heap.size, 0, none⟩ = some (.pointer (some ⟨p, 0, none⟩)) := (hbW.cell (p := ⟨w.heap.size, 0, none⟩) (by show w.heap.size < _; have := HZ.out; omega)).trans l0
  have m1 : w0.cell? ⟨w.heap.size + 1, 0, none⟩ = some (.int .i64 0) := (hbW.cell (p := ⟨w.heap.size + 1, 0, none⟩) (by show w.heap.size + 1 < _; have := HZ.out; omega)).trans l1
  have mf : w0.frozen? ⟨w.heap.size + 1, 0, none⟩ = false := (hbW.frozen (p := ⟨w.heap.size + 1, 0, none⟩) (by show w.heap.size + 1 < _; have := HZ.out; omega)).trans f1
  have HB0 := Lib.hid (HB.out.below hbw)
  have HS0 : Hid (∀ k, S k → k < w0.heap.size) := fun k hk => Nat.lt_of_lt_of_le (HS.out k hk) hbw.size
  have hcells : ∀ j (h : j < (keys C.L).length), w0.cell? ⟨g, j, none⟩ = some (.int .i64 (keys C.L)[j]) := by
    intro j hj
    have := row_cells HB0.out.raw.hr j hj
    rw [Nat.zero_add] at this
    rw [this, List.getD_eq_getElem?_getD, List.getElem?_eq_getElem hj]; rfl
  have eBs : W.heap.size = w.heap.size + 2 := HZ.out
  rw [hw0, eBs]
  have HBW := Lib.hid hbw
  clear hw0 hbW l0 l1 f1 d1 d3 d3' hbw eBs
  refine wpIn_rangeFunc_ownG rfl (by decide) (gf := 73) (lb := #[.pointer (some ⟨w.heap.size + 2, 0, none⟩)]) rfl trivial (enters_of Try.func73 (by kernel_rfl) rfl)
    (back_stops (5 - 1) (by decide) (w.heap.size + 2) w0.heap.size g cap (keys C.L) hN0 hN1 (by omega) (by omega) w0 (Nat.le_refl _) hbs hcells) belowK_t (belowK_b (Nat.le_refl _)) (Below.refl _ _) (fun _ => rfl)
    (RoomI C w0) (RoomX S C w0 p bm (w.heap.size + 1) src) (roomI_own C w0) (roomX_own HS0.out (by omega)) ⟨fun y hy => (by cases hy), Below.refl _ _⟩
    (fun x => { tmps := #[.pointer (some ⟨p, 0, none⟩), .pointer (some ⟨w.heap.size, 0, none⟩), .pointer (some ⟨w.heap.size + 1, 0, none⟩), .int .i64 ((x.1 : Nat) : Int), .int .i64 (keys C.L)[x.1], undef, .pointer (some ⟨p, 0, none⟩), .pointer (some ⟨p, 0, none⟩), .pointer (some ⟨p, 3, none⟩), .slice (some ⟨g, 0, none⟩) (keys C.L).length cap, .int .i64 ((keys C.L).length : Int), .pointer (some ⟨p, 0, none⟩), .pointer (some ⟨p, 0, none⟩), .pointer (some ⟨p, 1, none⟩), .int .i64 (C.most : Int), .bool false, .pointer (some ⟨p, 0, none⟩), .pointer (some ⟨p, 0, none⟩), .pointer (some ⟨p, 3, none⟩), .slice (some ⟨g, 0, none⟩) (keys C.L).length cap, .func (.func 73) #[] #[.pointer (some ⟨w.heap.size + 2, 0, none⟩)], .int .i64 ((x.1 : Nat) : Int), .int .i64 (keys C.L)[x.1], undef, undef, undef, undef, undef, undef, undef, undef, undef, undef, undef, undef, undef, undef, undef, undef, undef, undef, undef, undef, undef, undef, undef, undef, undef, undef, undef, undef, undef, undef], defers := [] }) ?assign ?body ?done ?stop
  case assign =>
    intro l x W2 K hK
    gi_wp2
    exact hK
  case body =>
    rintro l pre x W2 ⟨hfree, hB⟩ _
    have hxl : x.1 < C.L.length := by rw [← keys_len]; exact x.2
    have n0 := (hB.cell (p := ⟨w.heap.size, 0, none⟩) (by show w.heap.size < _; omega)).trans m0
    have n1 := (hB.cell (p := ⟨w.heap.size + 1, 0, none⟩) (by show w.heap.size + 1 < _; omega)).trans m1
    have nf := (hB.frozen (p := ⟨w.heap.size + 1, 0, none⟩) (by show w.heap.size + 1 < _; omega)).trans mf
    have HB2 := Lib.hid (HB0.out.below hB)
    have c2 := HB2.out.raw.c2
    have hkey : (keys C.L)[x.1] = C.L[x.1].key := by simp [keys]
    rw [hkey]
    have HFR : Hid (frK C x = C.L[x.1].free) := rfl
    have hf := fx_of HB.out.ok.nodup hxl
    have HF := Lib.hid hf
    have HI := Lib.hid (HB.out.ok.wf _ (List.getElem_mem hxl))
    have HD := Lib.hid (toD_del HB.out.ok.nodup HB.out.ok.wf hf)
    have HPR := Lib.hid hfree
    have HBw := Lib.hid hB
    clear hfree hB m0 m1 mf hbs hcells hkey hf
    have HXL := Lib.hid hxl
    generalize C.L[x.1] = y at *
    clear hxl
    obtain ⟨i, s, d, m⟩ := y
    simp only at HI HD HF
    cases d
    · by_cases hm0 : m = 0
      · subst hm0
        have hbA : Below W2.heap.size W2 (W2.alloc (.cells #[.string s, .bool false, .int .i64 0] 71)) := (Below.refl _ _).alloc (Nat.le_refl _) _
        have hsA := HBw.out.size
        have a0 := (hbA.cell (p := ⟨w.heap.size, 0, none⟩) (by show w.heap.size < _; omega)).trans n0
        have a1 := (hbA.cell (p := ⟨w.heap.size + 1, 0, none⟩) (by show w.heap.size + 1 < _; omega)).trans n1
        have af := (hbA.frozen (p := ⟨w.heap.size + 1, 0, none⟩) (by show w.heap.size + 1 < _; omega)).trans nf
        have a2 := (hbA.cell (p := ⟨p, 2, none⟩) (by show p < _; omega)).trans c2
        have HBA := Lib.hid (HB2.out.below hbA)
        have HbA := Lib.hid hbA
        clear hbA
        gi_wp2_with (first
          | (gi_at_lookup; refine wpListIn_has_yes _ rfl _ _ rfl rfl rfl HB2.out.map HB2.out.ok.nodup HB2.out.ok.wf x.1 _ HF.out ?_)
          | (gi_at_delete; refine wpListIn_del _ ?dg (.tmp 40) (.tmp 41) ?dh ?dm ?dx HBA.out.map HI.out _ HD.out ?_))
        case dg => rfl
        case dh => rfl
        case dm => rfl
        case dx => rfl
        generalize W2.alloc (.cells #[.string s, .bool false, .int .i64 0] 71) = WA at *
        intro w3 hm3 ho3
        have hWA : W2.heap.size ≤ WA.heap.size := HbA.out.size
        have hbmS := HS.out bm HB.out.sb
        have hgb : ¬ g = bm := fun e => HB2.out.rb (by rw [← e]; rfl)
        have hgp : ¬ g = p := fun e => HB2.out.raw.rp (by rw [← e]; rfl)
        have hpb : ¬ p = bm := fun e => HB2.out.bp e.symm
        have b0 := (ho3.out.cell (p := ⟨w.heap.size, 0, none⟩) (by show w.heap.size < _; omega) (by show ¬ w.heap.size = bm; omega)).trans a0
        have b1 := (ho3.out.cell (p := ⟨w.heap.size + 1, 0, none⟩) (by show w.heap.size + 1 < _; omega) (by show ¬ w.heap.size + 1 = bm; omega)).trans a1
        have bf : w3.frozen? ⟨w.heap.size + 1, 0, none⟩ = false := (World.frozen?_of_block (ho3.out.block (w.heap.size + 1) (by omega) (by omega))).trans af
        have hR3 := HBA.out.raw.kept ho3.out hpb (fun k hk e => hgb (by simp [Value.ownBlock] at hk; omega))
        have b3 := hR3.c3
        have bf3 := hR3.f 3
        have hkk : x.1 < (keys C.L).length := x.2
        have HR3 := Lib.hid hR3; clear hR3
        have hmx : Try.prog.follows .mixedOrders = true := by kernel_rfl
        gi_wp2
        refine wpIn_mono (del_region (T := #[.pointer (some ⟨p, 0, none⟩), .pointer (some ⟨w.heap.size, 0, none⟩), .pointer (some ⟨w.heap.size + 1, 0, none⟩), .int .i64 ((x.1 : Nat) : Int), .int .i64 i, .pointer (some ⟨W2.heap.size, 0, none⟩), .pointer (some ⟨p, 0, none⟩), .pointer (some ⟨p, 0, none⟩), .pointer (some ⟨p, 3, none⟩), .slice (some ⟨g, 0, none⟩) (keys C.L).length cap, .int .i64 ((keys C.L).length : Int), .pointer (some ⟨p, 0, none⟩), .pointer (some ⟨p, 0, none⟩), .pointer (some ⟨p, 1, none⟩), .int .i64 (C.most : Int), .bool false, .pointer (some ⟨p, 0, none⟩), .pointer (some ⟨p, 0, none⟩), .pointer (some ⟨p, 3, none⟩), .slice (some ⟨g, 0, none⟩) (keys C.L).length cap, .func (.func 73) #[] #[.pointer (some ⟨w.heap.size + 2, 0, none⟩)], .int .i64 ((x.1 : Nat) : Int), .int .i64 i, .pointer (some ⟨p, 0, none⟩), .pointer (some ⟨p, 0, none⟩), .pointer (some ⟨p, 2, none⟩), .map (some bm), .int .i64 i, .agg #[.string s, .bool false, .int .i64 0], .pointer (some ⟨W2.heap.size, 1, none⟩), .bool false, .bool true, .bool true, .pointer (some ⟨W2.heap.size, 2, none⟩), .int .i64 0, .bool true, .bool true, .pointer (some ⟨p, 0, none⟩), .pointer (some ⟨p, 0, none⟩), .pointer (some ⟨p, 2, none⟩), .map (some bm), .int .i64 i, .pointer (some ⟨p, 0, none⟩), .pointer (some ⟨p, 0, none⟩), .pointer (some ⟨p, 0, none⟩), .pointer (some ⟨p, 3, none⟩), .slice (some ⟨g, 0, none⟩) (keys C.L).length cap, .int .i64 ((x.1 : Nat) : Int), .int .i64 ((x.1 : Nat) : Int), .int .i64 (((x.1 : Nat) : Int) + 1), .slice (some ⟨g, 0, none⟩) ((keys C.L).length - 1) cap, .pointer (some ⟨p, 0, none⟩), .pointer (some ⟨p, 3, none⟩)]) (base := List.range 42) (O := keys C.L) (x := x.1) (g := g) (cap := cap) (hb := w.heap.size) (p := p) hmx (by kernel_rfl) (by kernel_rfl) (by kernel_rfl) (by kernel_rfl) (by kernel_rfl) (by kernel_rfl) (by kernel_rfl) (by kernel_rfl) (by kernel_rfl) (by kernel_rfl) (by kernel_rfl) (by kernel_rfl) (by kernel_rfl) (by kernel_rfl) (by decide) (by decide)
            rfl rfl rfl rfl rfl rfl rfl rfl rfl rfl rfl rfl rfl rfl rfl (fun d hd => frame_eq (k := 42) (by rfl) d (List.mem_range.1 hd)) rfl (fun d hd => List.mem_range.2 hd) hkk hN1 HR3.out.hr (by omega) (fun e => hgp e.symm) (by have := ho3.out.size; omega) (by have := ho3.out.size; omega) b0 b3 bf3) ?q9
        case q9 =>
          rintro e a' w5 ⟨rfl, rfl, w4, hM, rfl⟩
          have hE := Lib.hid (room_end (rb := w.heap.size + 1) (C := C) HBA.out hm3.out ho3.out hM x.2 (by omega) (by omega) (by omega) (ok_erase HB.out.ok x.1))
          have hpw : p ≠ w.heap.size + 1 := by omega
          have g1 : (w4.setCell ⟨p, 3, none⟩ (.slice (some ⟨g, 0, none⟩) ((keys C.L).length - 1) cap)).cell? ⟨w.heap.size + 1, 0, none⟩ = some (.int .i64 0) := by
            rw [World.cell?_setCell_other _ _ _ _ (by simp)]
            exact (hM.only.cell (p := ⟨w.heap.size + 1, 0, none⟩) (by show w.heap.size + 1 < _; have := ho3.out.size; omega) (by show ¬ w.heap.size + 1 = g; omega)).trans b1
          have g2 : (w4.setCell ⟨p, 3, none⟩ (.slice (some ⟨g, 0, none⟩) ((keys C.L).length - 1) cap)).frozen? ⟨w.heap.size + 1, 0, none⟩ = false := by
            rw [World.frozen?_setCell]
            exact (World.frozen?_of_block (hM.only.block (w.heap.size + 1) (by have := ho3.out.size; omega) (by omega))).trans bf
          have HM := Lib.hid hM
          clear hM b0 b1 b3 bf bf3 a0 a1 af a2 n0 n1 nf c2
          generalize hw5 : w4.setCell ⟨p, 3, none⟩ (.slice (some ⟨g, 0, none⟩) ((keys C.L).length - 1) cap) = w5 at *
          clear hw5
          gi_wp2
          have hW6 : Only (fun j => S j ∨ j = w.heap.size + 1) W2 (w5.setCell ⟨w.heap.size + 1, 0, none⟩ (.int .i64 0)) := (Only.of_below _ HbA.out (Nat.le_refl _)).trans hE.out.2 (fun _ _ h => h)
          refine ⟨keepsFrom_only hW6 (fun k hk => ?_), rfl, pre, x, rfl, HPR.out, by rw [HFR.out]; rfl, ⟨_, hE.out.1⟩, World.cell?_setCell_same' _ _ _ (by rw [g1]; rfl), (Only.of_below _ HBw.out (Nat.le_refl _)).trans hW6 (fun _ _ h => h)⟩
          rcases hk with hk | hk
          · exact HS0.out k hk
          · omega
      · have hm1 : ((m : Int) == 0) = false := beq_eq_false_iff_ne.2 (by omega)
        gi_wp2_with (first
          | (gi_at_lookup; refine wpListIn_has_yes _ rfl _ _ rfl rfl rfl HB2.out.map HB2.out.ok.nodup HB2.out.ok.wf x.1 _ HF.out ?_))
        refine ⟨(KeepsOthers.alloc _ _).from _, (Below.refl _ _).alloc HBw.out.size _, ⟨fun z hz => ?_, HBw.out.alloc HBw.out.size _⟩⟩
        rcases List.mem_append.1 hz with hz | hz
        · exact HPR.out z hz
        · obtain rfl : z = x := by simpa using hz
          rw [HFR.out]; simp [Kp.free, hm0]
    · gi_wp2_with (first
        | (gi_at_lookup; refine wpListIn_has_yes _ rfl _ _ rfl rfl rfl HB2.out.map HB2.out.ok.nodup HB2.out.ok.wf x.1 _ HF.out ?_))
      refine ⟨(KeepsOthers.alloc _ _).from _, (Below.refl _ _).alloc HBw.out.size _, ⟨fun z hz => ?_, HBw.out.alloc HBw.out.size _⟩⟩
      rcases List.mem_append.1 hz with hz | hz
      · exact HPR.out z hz
      · obtain rfl : z = x := by simpa using hz
        rw [HFR.out]; simp [Kp.free]
  case done =>
    rintro D ys W2 hD rfl ⟨hfree, hB⟩ hK
    have r1 : W2.cell? ⟨w.heap.size + 1, 0, none⟩ = some (.int .i64 0) := (hB.cell (p := ⟨w.heap.size + 1, 0, none⟩) (by show w.heap.size + 1 < _; omega)).trans m1
    have rf : W2.frozen? ⟨w.heap.size + 1, 0, none⟩ = false := (hB.frozen (p := ⟨w.heap.size + 1, 0, none⟩) (by show w.heap.size + 1 < _; omega)).trans mf
    have HF := Lib.hid hfree
    have HBB : Hid (Below w.heap.size w W2) := HBW.out.trans (hB.mono (by omega))
    clear hfree hB m0 m1 mf hbs hcells
    gi_wp2
    have hK' := (KeepsOthers.setCell W2 ⟨w.heap.size + 1, 0, none⟩ (.int .i64 14)).same D _ hK rfl
    refine ⟨by simp, .inl ⟨_, _, rfl, run_takeDeferred hK', ?_⟩⟩
    have hc5 := cell_kept (World.cell?_setCell_same' W2 ⟨w.heap.size + 1, 0, none⟩ (.int .i64 14) (by rw [r1]; rfl)) (grownBy_putObj' _ D (.deferred none)) (fun r e => by cases e; exact ⟨_, hK', rfl⟩)
    have hfin : Below w.heap.size w ((W2.setCell ⟨w.heap.size + 1, 0, none⟩ (.int .i64 14)).putObj D (.deferred none)) :=
      (HBB.out.setCell (p := ⟨w.heap.size + 1, 0, none⟩) (by show w.heap.size ≤ w.heap.size + 1; omega) _).trans (belowK_b (w := w) (Nat.le_refl _) _ D _ _ (by omega) hK' rfl rfl)
    refine ⟨.int .i64 14, ?_, Only.of_below _ hfin (Nat.le_refl _), .inr ⟨?_, rfl, HB.out.below hfin⟩⟩
    · simp [results, Try.f54, go_sem, hc5]
    · exact lf_is_none fun j hj => HF.out ⟨j, by rw [keys_len]; exact hj⟩ (by unfold bw; simp)
  case stop =>
    rintro D c pre W2 hD ⟨k, hk, rfl⟩ ⟨rfl, ini, last, e1, e2, e3, ⟨ov', hC⟩, hcr, ho⟩ hK
    have HE := Lib.hid e1; have HE2 := Lib.hid e2; have HE3 := Lib.hid e3; have HC := Lib.hid hC; have HO := Lib.hid ho
    clear e1 e2 e3 hC ho m0 m1 mf hbs hcells
    gi_wp2
    refine ⟨by simp, .inl ⟨_, _, rfl, run_takeDeferred hK, ?_⟩⟩
    have hc5 := cell_kept hcr (grownBy_putObj' _ D (.deferred none)) (fun r e => by cases e; exact ⟨_, hK, rfl⟩)
    have hput : Only (fun k => k = D) W2 (W2.putObj D (.deferred none)) := (grown_only (grownBy_putObj' W2 D (.deferred none))).mono (fun k _ e => by simpa using e.symm)
    have hlast : last.1 < C.L.length := by rw [← keys_len]; exact last.2
    refine ⟨.int .i64 0, ?_, ?_, .inl ⟨last.1, ov', ?_, rfl, HC.out.kept hput (fun k hk e => by have := HS0.out k hk; omega)⟩⟩
    · simp [results, Try.f54, go_sem, hc5]
    · have h1 : Only S w w0 := Only.of_below _ HBW.out (Nat.le_refl _)
      refine (h1.trans HO.out (fun i hi hs => ?_)).trans hput (fun i hi e => by omega)
      rcases hs with hs | hs
      · exact hs
      · omega
    · refine lf_is hlast HE3.out (fun j hj hlj => ?_)
      exact HE2.out ⟨j, by rw [keys_len]; exact hj⟩ (bw_last hk HE.out _ hlj)
/-- Room is made, or there is none. -/
theorem room_any (h : CB S w p bm src ov C) :
    Calls Try.prog 54 #[.pointer (some ⟨p, 0, none⟩)] w fun e w' => Only S w w' ∧ ((∃ M ov', room C.L C.most = some M ∧ e = .returned (.int .i64 0) ∧ CB S w' p bm src ov' { C with L := M }) ∨ (room C.L C.most = none ∧ e = .returned (.int .i64 14) ∧ CB S w' p bm src ov C)) := by
  by_cases hl : C.L.length < C.most
  · refine (room_has h hl).mono fun e w' ⟨he, hb⟩ => ⟨Only.of_below _ hb (Nat.le_refl _), .inl ⟨C.L, ov, by unfold room; rw [if_pos hl], he, h.below hb⟩⟩
  · refine (room_makes h hl).mono fun e w' ⟨ho, h'⟩ => ⟨ho, ?_⟩
    rcases h' with ⟨k, ov', h1, h2, h3⟩ | ⟨h1, h2, h3⟩
    · exact .inl ⟨_, ov', by unfold room; rw [if_neg hl, h1]; rfl, h2, h3⟩
    · exact .inr ⟨by unfold room; rw [if_neg hl, h1]; rfl, h2, h3⟩
end
end Go.Proofs.Yteeoglfgilabaaa
