/- What the program's Folded answers. -/
import Derived.Test.YtbblmpibekkbfaaDoorUIter
import Derived.Test.YtbblmpibekkbfaaDoorUFoldD
import Derived.Test.YtbblmpibekkbfaaDoorUAppR
namespace Go.Proofs.YtbblmpibekkbfaaDoor
open Go.RowKit Go.Shelf
attribute [local go_sem] Oper.semAt_some

/-- The bytes that a place gives when it is folded. -/
def fpL (L : List UInt8) (p : Nat) : List UInt8 := (foldP (pcL L p)).2
theorem fold_pieces (s : ByteArray) {T : List (Fin s.size)} (h : chainL s.data.toList 0 T) (he : endL s.data.toList 0 T = s.size) : foldedL s.data.toList = T.flatMap fun x => fpL s.data.toList x.1 := by
  unfold foldedL
  rw [chain_all s h he, List.map_map, List.flatMap_map]
  rfl

/-- What the loop's own cells hold: the box of the row, the row, the text's box and the box that the iterator holds. -/
structure Fd1 (s : ByteArray) (w : World) (B2 : Nat) (v : Value) (D : List UInt8) (W : World) : Prop where
  bv : Boxed W B2 43 v
  row : W.ownsRow w.heap.size 5 1 v D.length (cellsU D)
  box : Boxed W w.heap.size 9 (.string s)
  box2 : Boxed W (B2 + 1) 9 (.string s)
  below : Below w.heap.size w W
def FdI (s : ByteArray) (w : World) (B2 : Nat) (D : List UInt8) (W : World) : Prop := ∃ v, Fd1 s w B2 v D W
def fdL (s : ByteArray) (pre : List (Fin s.size)) : List UInt8 := pre.flatMap fun x => fpL s.data.toList x.1
theorem fd_snoc (s : ByteArray) (pre : List (Fin s.size)) (x : Fin s.size) : fdL s (pre ++ [x]) = fdL s pre ++ fpL s.data.toList x.1 := by unfold fdL; rw [List.flatMap_append, List.flatMap_singleton]
theorem fd_own (s : ByteArray) (w w0 : World) (B2 : Nat) (h : w.heap.size ≤ w0.heap.size) : OwnFrom w0.heap.size (fun (pre : List (Fin s.size)) W => FdI s w B2 (fdL s pre) W) := by
  rintro pre A B row ⟨v, hs⟩ hg hr
  have h1 := (Own.from (holdsRow_own (β := List UInt8) w.heap.size B2 43 5 1 (fun D => D.length) (fun D => cellsU D) (fun _ u => u = v)) w0.heap.size) (fdL s pre) A B row ⟨v, hs.bv, hs.row, rfl⟩ hg hr
  obtain ⟨v, a1, a2, rfl⟩ := h1
  exact ⟨v, a1, a2, (Own.from (boxed_own (β := Unit) w.heap.size 9 (fun _ => .string s)) w0.heap.size) () A B row hs.box hg hr, (Own.from (boxed_own (β := Unit) (B2 + 1) 9 (fun _ => .string s)) w0.heap.size) () A B row hs.box2 hg hr, (ownFrom_below (β := Unit) (Nat.le_refl _) h) () A B row hs.below hg hr⟩
theorem keeps_below {W W' : World} (hb : Below W.heap.size W W') : KeepsOthers W W' := KeepsOthers.of_grownBy (row := none) ⟨hb.os, hb.tape, hb.output, hb.size, fun k hk _ => hb.block k hk⟩ (fun j o e => by cases e)
theorem Fd1.vc {s : ByteArray} {w W : World} {B2 : Nat} {v : Value} {D : List UInt8} (h : Fd1 s w B2 v D W) : v.cells.size = 1 := by
  rcases h.row.2 with ⟨rfl, _⟩ | ⟨g, cap, _, rfl, _⟩ <;> rfl
/-- Behind a call that makes new blocks it holds the same. -/
theorem Fd1.later {s : ByteArray} {w W W' : World} {B2 : Nat} {v : Value} {D : List UInt8} (h : Fd1 s w B2 v D W) (hb : Below W.heap.size W W') : Fd1 s w B2 v D W' :=
  ⟨(hb.block _ h.bv.lt).trans h.bv, own_belowU h.row hb, (hb.block _ h.box.lt).trans h.box, (hb.block _ h.box2.lt).trans h.box2, h.below.trans (hb.mono h.below.size)⟩
/-- Behind an append to the row, stored into its box, it holds the longer row. -/
theorem Fd1.append {s : ByteArray} {w W w5 : World} {B2 : Nat} {v v' : Value} {D D' : List UInt8} {o : Obj} (h : Fd1 s w B2 v D W) (hB2 : w.heap.size < B2) (hown : w5.ownsRow w.heap.size 5 1 v' D'.length (cellsU D')) (hgrow : (W.alloc o).grownBy w5 v.ownBlock) :
    Fd1 s w B2 v' D' (w5.setCell ⟨B2, 0, none⟩ v') ∧ Boxed w5 B2 43 v ∧ KeepsOthers W (w5.setCell ⟨B2, 0, none⟩ v') ∧ Below w.heap.size W (w5.setCell ⟨B2, 0, none⟩ v') := by
  obtain ⟨k1, k2, k3, k4, k5⟩ := Boxed.appended h.bv (by decide) h.row h.below.size (Nat.le_of_lt hB2) hown hgrow
  have bx : ∀ {B : Nat}, B ≠ B2 → Boxed W B 9 (.string s) → Boxed (w5.setCell ⟨B2, 0, none⟩ v') B 9 (.string s) := fun hne hb => ((hb.alloc o).kept hgrow (hb.not_row (by decide) h.row)).other hne _
  exact ⟨⟨k2, k3, bx (by omega) h.box, bx (by omega) h.box2, h.below.trans k5⟩, k1, k4, k5⟩
theorem no_own {β : Type} (B : Nat) (c : Code) : OwnFrom B ((fun (_ : Code) (_ : β) (_ : World) => False) c) := fun _ _ _ _ hs _ _ => hs

theorem fp_len {L : List UInt8} {p : Nat} (h : p < L.length) : (fpL L p).length ≤ 4 := by
  have hne : L.drop p ≠ [] := fun e => by
    have := congrArg List.length e
    rw [List.length_drop] at this
    simp at this
    omega
  have hp := rune_pos hne
  unfold fpL pcL foldP rn
  dsimp only
  split
  · dsimp only; rw [List.length_take]; omega
  · dsimp only; rw [byts_len]; split; omega; split; omega; split <;> omega
theorem fd_len (s : ByteArray) (pre : List (Fin s.size)) : (fdL s pre).length ≤ 4 * pre.length := by
  induction pre with
  | nil => exact Nat.le_refl _
  | cons x T ih =>
    have h1 := fp_len (L := s.data.toList) (p := x.1) (by rw [data_len]; exact x.2)
    show (fpL s.data.toList x.1 ++ fdL s T).length ≤ _
    rw [List.length_append, List.length_cons]
    omega
theorem fp_neg {s : ByteArray} {p : Nat} (h : p < s.size) (hn : (rn s.data.toList p).1 < 0) : fpL s.data.toList p = [s[p]] := by
  have hl := data_len s
  have hne : s.data.toList.drop p ≠ [] := fun e => by
    have := congrArg List.length e
    rw [List.length_drop] at this
    simp at this
    omega
  have h1 := (rune_lt (L := s.data.toList.drop p) hn).2.2 hne
  unfold fpL pcL foldP
  dsimp only
  rw [if_pos hn]
  show (s.data.toList.drop p).take (runeL (s.data.toList.drop p)).2 = _
  rw [h1, List.drop_eq_getElem_cons (by omega)]
  simp only [List.take_succ_cons, List.take_zero, List.cons.injEq, and_true]
  have := (byte_at s p h).symm
  rw [List.getD_eq_getElem?_getD, List.getElem?_eq_getElem (by omega)] at this
  exact this
theorem fp_pos {L : List UInt8} {p : Nat} (hn : ¬ (rn L p).1 < 0) : ∃ k : Nat, (rn L p).1 = k ∧ isRn k = true ∧ fpL L p = byts (foldR k) := by
  obtain ⟨k, e1, e2, _⟩ := rune_ge (L := L.drop p) (show 0 ≤ (runeL (L.drop p)).1 by unfold rn at hn; omega)
  have e1 : (rn L p).1 = k := e1
  refine ⟨k, e1, e2, ?_⟩
  unfold fpL pcL foldP
  dsimp only
  rw [if_neg hn, e1]
  rfl
theorem rune_cells (k : Nat) (h : isRn k = true) : Lib.runeCells (k : Int) = cellsU (byts k) := by
  unfold isRn at h
  have h := of_decide_eq_true h
  unfold Lib.runeCells cellsU byts
  by_cases h1 : k < 0x80
  · rw [Lib.encodeRuneZ_one (by omega) (by omega), if_pos h1]
    show [Value.int .u8 _] = [Value.int .u8 _]
    rw [u8_of k (by omega)]
  rw [if_neg h1]
  by_cases h2 : k < 0x800
  · rw [Lib.encodeRuneZ_two (by omega) (by omega), if_pos h2]
    show [Value.int .u8 _, Value.int .u8 _] = [Value.int .u8 _, Value.int .u8 _]
    rw [u8_of (0xC0 + k / 64) (by omega), u8_of (0x80 + k % 64) (by omega)]
    congr 3
  rw [if_neg h2]
  by_cases h3 : k < 0x10000
  · rw [Lib.encodeRuneZ_three (by omega), if_pos h3]
    show [Value.int .u8 _, Value.int .u8 _, Value.int .u8 _] = [Value.int .u8 _, Value.int .u8 _, Value.int .u8 _]
    rw [u8_of (0xE0 + k / 4096) (by omega), u8_of (0x80 + k / 64 % 64) (by omega), u8_of (0x80 + k % 64) (by omega)]
    congr 3
  · rw [Lib.encodeRuneZ_four (by omega) (by omega), if_neg h3]
    show [Value.int .u8 _, Value.int .u8 _, Value.int .u8 _, Value.int .u8 _] = [Value.int .u8 _, Value.int .u8 _, Value.int .u8 _, Value.int .u8 _]
    rw [u8_of (0xF0 + k / 262144) (by omega), u8_of (0x80 + k / 4096 % 64) (by omega), u8_of (0x80 + k / 64 % 64) (by omega), u8_of (0x80 + k % 64) (by omega)]
    congr 3
/-- One byte behind a row of bytes. -/
theorem app_byte (W : World) (base : Nat) (v : Value) (D : List UInt8) (b : UInt8) (hr : URow base W v D) (hb : base ≤ W.heap.size) (hD : D.length ≤ 1000000) :
    ∃ v' w', (Builtin.append_ #[43, 43] 43 #[v, .slice (some ⟨W.heap.size, 0, none⟩) 1 1]).run Tryd.prog (W.alloc (.cells #[.int .u8 (b.toNat : Int)] 5)) = .ok v' w' ∧ w'.ownsRow base 5 1 v' (D ++ [b]).length (cellsU (D ++ [b])) ∧ (W.alloc (.cells #[.int .u8 (b.toNat : Int)] 5)).grownBy w' v.ownBlock := by
  obtain ⟨i0, hi, hz0, hz1, hz2⟩ := info_parts infoU
  obtain ⟨v', w3, hrun, hown, hgrow, _⟩ := run_append_own (P := Tryd.prog) (W.alloc (.cells #[.int .u8 (b.toNat : Int)] 5)) base 43 43 5 i0 (.int .u8 0) 1 1 Tryd.underlying43 hi hz0 hz1 hz2 rfl (by decide) v D.length (cellsU D)
    (own_belowU (w := W) hr ((Below.refl _ W).alloc (Nat.le_refl _) _)) ⟨W.heap.size, 0, none⟩ 1 1 [.int .u8 (b.toNat : Int)] rfl
    (fun j u hj => by
      cases j with
      | zero => cases hj; show (World.alloc _ _).cell? _ = _; rw [show ((⟨W.heap.size, 0, none⟩ : Addr).add 0) = ⟨W.heap.size, 0, none⟩ from rfl, ucell_at (heap_alloc_new ..)]; rfl
      | succ j => cases hj)
    (fun u hu => by simp at hu; subst hu; rfl) (by unfold maxLen; omega) (by omega) (by simp; omega)
  refine ⟨v', w3, hrun, ?_, hgrow⟩
  rw [cellsU_app, List.length_append]
  exact hown
theorem own_shapeU {base : Nat} {w : World} {v : Value} {D : List UInt8} (h : w.ownsRow base 5 1 v D.length (cellsU D)) (h0 : 0 < D.length) : ∃ g cap, v = .slice (some ⟨g, 0, none⟩) D.length cap := by
  rcases h.2 with ⟨_, hn⟩ | ⟨g, cap, _, rfl, _⟩
  · omega
  · exact ⟨g, cap, rfl⟩

set_option maxRecDepth 100000 in
set_option maxHeartbeats 4000000 in
theorem pfolded_any (s : ByteArray) (w : World) (hT : Tabs w) (hs : s.size ≤ 100000) : Calls Tryd.prog 17 #[.string s] w fun e w' => e = .returned (.string (utxt (foldedL s.data.toList))) ∧ Below w.heap.size w w' := by
  obtain ⟨i0, hi, hz0, hz1, hz2⟩ := info_parts infoU
  have HZ2 := Lib.hid hz2; clear hz2
  have HT := Lib.hid hT; clear hT
  refine (callsIn_wide (n := 5)).1 ?_
  refine callsIn_of_wp_marks Tryd.func17 rfl trivial ?_ rfl
  simp only [Tryd.ntmps17, List.size_toArray, List.length_cons, List.length_nil, Nat.reduceAdd, Nat.reduceSub, Array.replicate_succ, Array.replicate_zero, List.push_toArray, List.append_toArray, List.nil_append, List.cons_append]
  gi_wp2_with (first
    | (gi_at_make; refine wpListIn_make_own _ rfl _ _ 43 rfl w.heap.size 5 i0 (.int .u8 0) 1 Tryd.underlying43 hi hz0 hz1 _ _ _ s.size rfl rfl rfl (by rw [HZ2.out]; omega) (by unfold maxLen; omega) (by simp) ?_; intro w1 hrow1 hgrow1; have hb1 : Boxed w1 w.heap.size 9 (.string s) := (Boxed.new w 9 _).kept hgrow1 (by simp); have HB1 := Lib.hid hb1; have hc1 := hb1.cell; have hc2 := (hb1.alloc (.cells #[.slice (some ⟨w.heap.size + 1, 0, none⟩) 0 s.size] 43)).cell; clear hb1)
    | (refine ⟨trivial, ?_⟩; gi_at_call 25; refine (callsIn_wide.2 (runes_any _ _)).mono ?_; rintro e w' ⟨rfl, rfl⟩))
  obtain ⟨w0, hw0⟩ : ∃ w0, (w1.alloc (.cells #[.slice (some ⟨w.heap.size + 1, 0, none⟩) 0 s.size] 43)).alloc (.cells #[.string s] 9) = w0 := ⟨_, rfl⟩
  have hs1 : w.heap.size + 1 ≤ w1.heap.size := by have := hgrow1.size; simpa using this
  have hbw1 : Below w.heap.size w w1 := ((Below.refl _ w).alloc (Nat.le_refl _) _).grown hgrow1 (by simp) (fun k e => by cases e)
  have hs0 : w0.heap.size = w1.heap.size + 2 := by rw [← hw0]; simp
  have hb0 : Below w.heap.size w w0 := by rw [← hw0]; exact (hbw1.alloc (by omega) _).alloc (by simp; omega) _
  have hbox : Boxed w0 w1.heap.size 43 (.slice (some ⟨w.heap.size + 1, 0, none⟩) 0 s.size) := by rw [← hw0]; exact (Boxed.new w1 _ _).alloc _
  have hbs : Boxed w0 w.heap.size 9 (.string s) := by rw [← hw0]; exact (HB1.out.alloc _).alloc _
  have hbs2 : Boxed w0 (w1.heap.size + 1) 9 (.string s) := by
    rw [← hw0]
    have := Boxed.new (w1.alloc (.cells #[.slice (some ⟨w.heap.size + 1, 0, none⟩) 0 s.size] 43)) 9 (.string s)
    rw [World.size_alloc] at this
    exact this
  have hrow : URow w.heap.size w0 (.slice (some ⟨w.heap.size + 1, 0, none⟩) 0 s.size) [] := by
    rw [← hw0]
    have := own_belowU (own_belowU hrow1 ((Below.refl _ w1).alloc (Nat.le_refl _) (.cells #[.slice (some ⟨w.heap.size + 1, 0, none⟩) 0 s.size] 43))) ((Below.refl _ (w1.alloc (.cells #[.slice (some ⟨w.heap.size + 1, 0, none⟩) 0 s.size] 43))).alloc (Nat.le_refl _) (.cells #[.string s] 9))
    rw [World.size_alloc] at this
    exact this
  rw [hw0]
  clear hw0 hc1 hc2 HB1 hrow1 hgrow1
  obtain ⟨B2, hB2⟩ : ∃ B2, w1.heap.size = B2 := ⟨_, rfl⟩
  rw [hB2]
  rw [hB2] at hs1 hs0 hbox hbs2
  clear hB2 hbw1
  refine wpIn_rangeFunc_ownG rfl (by decide) (gf := 38) (lb := #[.pointer (some ⟨B2 + 1, 0, none⟩)]) rfl trivial (enters_of Tryd.func38 (by kernel_rfl) rfl)
    (runes_stops (5 - 1) (by decide) (B2 + 1) s hs w w0 HT.out hb0 hbs2.cell) kpu_t (kpu_b hb0.size) (Below.refl _ _) (fun _ => rfl)
    (fun pre W => FdI s w B2 (fdL s pre) W) (fun _ _ _ => False) (fd_own s w w0 B2 hb0.size) (no_own _) ⟨_, hbox, hrow, hbs, hbs2, hb0⟩
    (fun x => { tmps := #[.string s, .pointer (some ⟨w.heap.size, 0, none⟩), .string { data := #[] }, .pointer (some ⟨B2, 0, none⟩), .int .i64 ((x.1 : Nat) : Int), .int .i64 (rn s.data.toList x.1).1, .string s, .int .i64 (s.size : Int), .slice (some ⟨w.heap.size + 1, 0, none⟩) 0 s.size, .string s, .func (.func 38) #[] #[.pointer (some ⟨B2 + 1, 0, none⟩)], .int .i64 ((x.1 : Nat) : Int), .int .i64 (rn s.data.toList x.1).1, undef, undef, undef, undef, undef, undef, undef, undef, undef, undef, undef, undef, undef, undef, undef], defers := [] }) ?assign ?body ?done ?stop
  case assign =>
    intro l x W2 K hK
    gi_wp2
    exact hK
  case body =>
    rintro l pre x W2 ⟨v, h1⟩ hlen
    have hp := x.2
    obtain ⟨p, hpx⟩ : ∃ p, x.1 = p := ⟨_, rfl⟩
    rw [hpx] at hp
    have H := Lib.hid h1
    have hcv := h1.bv.cell
    have hfv := h1.bv.frozen
    have hcs := h1.box.cell
    have hB0 := h1.below.size
    have HP : Hid (fdL s (pre ++ [x]) = fdL s pre ++ fpL s.data.toList p) := by show _ = _; rw [fd_snoc, hpx]
    have HLD : Hid ((fdL s pre).length ≤ 4 * s.size) := by have := fd_len s pre; show _ ≤ _; omega
    have HB2 : Hid (w.heap.size < B2) := by show _ < _; omega
    have hmx : Tryd.prog.follows .mixedOrders = true := by kernel_rfl
    clear h1
    generalize fdL s pre = D at *
    by_cases hneg : (rn s.data.toList p).1 < 0
    · have hr1 := (rune_lt (L := s.data.toList.drop p) hneg).2.1
      have hr1 : (rn s.data.toList p).1 = -1 := hr1
      rw [hpx, hr1]
      clear hpx
      have g0 : (0 : Int) ≤ (p : Int) := by omega
      have g1 : (p : Int) < (s.size : Int) := by omega
      have hlD := HLD.out
      have HQ : Hid (fpL s.data.toList p = [s[p]]) := fp_neg hp hneg
      obtain ⟨v', w3, hrun, hown, hgrow⟩ := app_byte W2.drew w.heap.size v D s[p] H.out.row hB0 (by omega)
      obtain ⟨gg, cap, hv'⟩ := own_shapeU hown (by simp)
      have HBX := Lib.hid ((H.out.later ((Below.refl _ W2).drew)).append (o := .cells #[.int .u8 (s[p].toNat : Int)] 5) HB2.out hown hgrow)
      have hc3 := HBX.out.2.1.cell
      have hf3 := HBX.out.2.1.frozen
      have hne12 : w.heap.size ≠ B2 := by have := HB2.out; omega
      have hc13 : w3.cell? ⟨w.heap.size, 0, none⟩ = some (.string s) := by
        have := HBX.out.1.box.cell
        rwa [World.cell?_setCell_other _ _ _ _ (by intro e; have he := congrArg Addr.block e; first | exact hne12 he | exact hne12 he.symm)] at this
      have HRun := Lib.hid hrun
      clear hown hgrow hrun
      gi_wp2
      refine wpIn_mono (app_region (T := #[.string s, .pointer (some ⟨w.heap.size, 0, none⟩), .string { data := #[] }, .pointer (some ⟨B2, 0, none⟩), .int .i64 (p : Int), .int .i64 (-1), .string s, .int .i64 (s.size : Int), .slice (some ⟨w.heap.size + 1, 0, none⟩) 0 s.size, .string s, undef, .int .i64 (p : Int), .int .i64 (-1), .int .i64 (-1), .bool true, v, .string s, .int .i64 (p : Int), .int .u8 (s[p].toNat : Int), .slice (some ⟨W2.heap.size, 0, none⟩) 1 1, v', undef, undef, undef, undef, undef, undef, undef]) (base := [1, 3, 4]) (B1 := w.heap.size) (B2 := B2) (p := p) (s := s) (v := v) (v' := v') (bt := (s[p].toNat : Int)) (w3 := w3)
        hmx (by kernel_rfl) (by kernel_rfl) (by kernel_rfl) (by kernel_rfl) (by kernel_rfl) (by kernel_rfl) (by kernel_rfl) (by kernel_rfl) (by kernel_rfl) (by kernel_rfl) (by simp) (by simp) (by simp)
        rfl rfl rfl rfl rfl rfl rfl rfl rfl rfl rfl (fun d hd => by simp only [List.mem_cons, List.mem_nil_iff, or_false] at hd; rcases hd with rfl | rfl | rfl <;> rfl) hp rfl hcs hcv H.out.vc HRun.out hne12 hc13 ⟨_, hc3⟩ hf3 ⟨gg, _, cap, hv'⟩) ?q9
      case q9 =>
        rintro e a' w5 ⟨rfl, rfl⟩
        gi_wp2
        refine ⟨((KeepsOthers.drew W2).trans HBX.out.2.2.1).from _, ⟨(Below.refl _ W2).drew.trans HBX.out.2.2.2, fun _ => HBX.out.1.box2.cell⟩, ?_⟩
        show FdI s w B2 (fdL s (pre ++ [x])) _
        rw [HP.out, HQ.out]
        exact ⟨_, HBX.out.1⟩
    · obtain ⟨k, hk1, hk2, hk3⟩ := fp_pos hneg
      have hkr : k ≤ 1114111 := by unfold isRn at hk2; exact (of_decide_eq_true hk2).1
      have hfk := fold_rn k hk2
      have hfr : foldR k ≤ 1114111 := by unfold isRn at hfk; exact (of_decide_eq_true hfk).1
      rw [hpx, hk1]
      clear hpx hneg
      have CFo : Hid (∀ W, Tabs W → Calls Tryd.prog 27 #[.int .i64 (k : Int)] W fun e w' => e = .returned (.int .i64 ((foldR k : Nat) : Int)) ∧ Below W.heap.size W w') := fun W hT => by
        have := pfold_any (k : Int) W hT (by omega)
        rw [foldI_nat] at this; exact this
      have CAp : Hid (∀ W v D, URow w.heap.size W v D → D.length ≤ 1000000 → w.heap.size ≤ W.heap.size → Calls Tryd.prog 26 #[v, .int .i32 ((foldR k : Nat) : Int)] W fun e w' => ∃ v', e = .returned v' ∧ w'.ownsRow w.heap.size 5 1 v' (D ++ byts (foldR k)).length (cellsU (D ++ byts (foldR k))) ∧ ∃ o, (W.alloc o).grownBy w' v.ownBlock) := fun W v D h1 h2 h3 => by
        have := Tryd.utf8_AppendRune_plain w.heap.size v D.length (cellsU D) ((foldR k : Nat) : Int) (by omega) (by omega) W h1 (by omega) h3
        rw [rune_cells (foldR k) hfk] at this
        rw [cellsU_app, List.length_append]
        rw [cellsU_len] at this
        exact this
      have hw : IntKind.i32.wrap ((foldR k : Nat) : Int) = ((foldR k : Nat) : Int) := IntWalk.i32_in _ (by omega)
      have hne : ((k : Int) == -1) = false := beq_eq_false_iff_ne.2 (by omega)
      have HTW := Lib.hid (HT.out.below H.out.below)
      have HQ : Hid (fpL s.data.toList p = byts (foldR k)) := hk3
      clear hk3
      have HYL : Hid (0 < (D ++ byts (foldR k)).length) := by have := (dec_pos (dec_byts (foldR k) [] hfk)).1; show 0 < _; rw [List.length_append]; omega
      have hlD := HLD.out
      generalize byts (foldR k) = Y at *
      generalize foldR k = fk at *
      gi_wp2
      gi_region_with_o (first
        | (refine ⟨trivial, ?_⟩; gi_at_call 27; refine (CallsIn.inRound l (callsIn_wide.2 (CFo.out W2.drew HTW.out))).mono ?_; rintro e w4 ⟨rfl, hb4⟩; have HB4 : Hid (Below W2.heap.size W2 w4) := (Below.refl _ W2).drew.trans hb4; have H4 := Lib.hid (H.out.later HB4.out); have hcv4 := H4.out.bv.cell; have hfv4 := H4.out.bv.frozen; clear hb4)
        | (refine ⟨trivial, ?_⟩; gi_at_call 26; refine (CallsIn.inRound l (callsIn_wide.2 (CAp.out _ v D H4.out.row (by omega) H4.out.below.size))).mono ?_; rintro e w5 ⟨v5, rfl, hown5, ob5, hgrow5⟩; obtain ⟨gg, cap, hv5⟩ := own_shapeU hown5 HYL.out; subst hv5; have HBX5 := Lib.hid (H4.out.append HB2.out hown5 hgrow5); have hc5 := HBX5.out.2.1.cell; have hf5 := HBX5.out.2.1.frozen; clear hown5 hgrow5))
      all_goals
        gi_wp2
        rw [← List.length_append]
        refine ⟨((keeps_below HB4.out).trans HBX5.out.2.2.1).from _, ⟨(HB4.out.mono hB0).trans HBX5.out.2.2.2, fun _ => HBX5.out.1.box2.cell⟩, ?_⟩
        show FdI s w B2 (fdL s (pre ++ [x])) _
        rw [HP.out, HQ.out]
        exact ⟨_, HBX5.out.1⟩
  case done =>
    rintro D ys W hD ⟨hch, hend⟩ ⟨v, h1⟩ hK
    have HE : Hid (fdL s ys = foldedL s.data.toList) := (fold_pieces s hch hend).symm
    have hcv := h1.bv.cell
    have hr := h1.row
    rw [HE.out] at hr
    have hc : (convert 43 9 v).run Tryd.prog W = .ok (.string (utxt (foldedL s.data.toList))) W := URow.text hr
    have HB := Lib.hid h1.below
    clear h1 hr
    gi_wp2
    refine ⟨by simp, .inl ⟨_, _, rfl, run_takeDeferred hK, ?_⟩⟩
    refine ⟨.string (utxt (foldedL s.data.toList)), ?_, rfl, HB.out.trans (belowK_b (w := w) (Nat.le_refl _) _ D _ _ (by have := hb0.size; omega) hK rfl rfl)⟩
    simp [results, Tryd.f17, go_sem]
  case stop =>
    rintro D c ys W hD hch hx hK
    exact hx.elim
end Go.Proofs.YtbblmpibekkbfaaDoor
