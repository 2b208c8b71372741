/- What the program's Tokens answers. -/
import Derived.Test.YtbblmpibekkbfaaDoorTWords1
import Derived.Test.YtbblmpibekkbfaaDoorTStopP
import Derived.Test.YtbblmpibekkbfaaDoorTSame
namespace Go.Proofs.YtbblmpibekkbfaaDoor
open Go.RowKit Go.Shelf
attribute [local go_sem] Oper.semAt_some

def tokL (s : ByteArray) : List (ByteArray × Int) := toksL (wordsL s.data.toList) 0
/-- A slice, if not nil, of a block from B on. -/
def NewV (B : Nat) (v : Value) : Prop := ∀ a m c, v = .slice (some a) m c → B ≤ a.block
theorem toksL_app : ∀ (a b : List ByteArray) (i : Nat), toksL (a ++ b) i = toksL a i ++ toksL b (i + a.length)
  | [], b, i => rfl
  | g :: a, b, i => by
    have := toksL_app a b (i + 1)
    by_cases h : keepT (foldedL g.data.toList) = true
    · rw [List.cons_append, toksL_yes h, toksL_yes h, this, List.length_cons, show i + 1 + a.length = i + (a.length + 1) by omega]
      rfl
    · have h := Bool.eq_false_iff.2 h
      rw [List.cons_append, toksL_no h, toksL_no h, this, List.length_cons, show i + 1 + a.length = i + (a.length + 1) by omega]
/-- The tokens of the first k words. -/
def tkL (L : List ByteArray) (k : Nat) : List (ByteArray × Int) := toksL (L.take k) 0
theorem tkL_step {L : List ByteArray} {k : Nat} (h : k < L.length) : tkL L (k + 1) = tkL L k ++ (if keepT (foldedL L[k].data.toList) = true then [(utxt (foldedL L[k].data.toList), (k : Int))] else []) := by
  unfold tkL
  rw [List.take_succ_eq_append_getElem h, toksL_app, List.length_take, Nat.min_eq_left (by omega), Nat.zero_add]
  by_cases hk : keepT (foldedL L[k].data.toList) = true
  · rw [if_pos hk, toksL_yes hk]; rfl
  · rw [if_neg hk, toksL_no (Bool.eq_false_iff.2 hk)]; rfl
theorem tkL_len (L : List ByteArray) : ∀ k, (tkL L k).length ≤ k
  | 0 => by unfold tkL; simp [toksL]
  | k + 1 => by
    have h1 := tkL_len L k
    by_cases h : k < L.length
    · rw [tkL_step h, List.length_append]
      split
      · rw [List.length_singleton]; omega
      · simp only [List.length_nil]; omega
    · have : tkL L (k + 1) = tkL L k := by unfold tkL; rw [List.take_of_length_le (by omega), List.take_of_length_le (by omega)]
      rw [this]; omega

theorem kpw_t {n₀ : Nat} {A B C : World} (h : KpW n₀ A B) (k : KpW n₀ B C) : KpW n₀ A C := ⟨h.1.trans k.1, fun b v t ht hb => k.2 b v t ht (h.2 b v t ht hb)⟩
theorem kpw_b {n₀ : Nat} {w : World} (hn : n₀ ≤ w.heap.size) (W : World) (l : Nat) (o o' : Obj) (hl : w.heap.size ≤ l) (h : W.heap[l]? = some o) (h1 : o.isCells = false) (h2 : o.isWalk = false) : KpW n₀ W (W.putObj l o') :=
  ⟨belowK_b hn W l o o' hl h h1 h2, fun b v t _ hb => hb.kept (grownBy_putObj' W l o') fun e => by
    cases e
    rw [show W.heap[_]? = _ from hb] at h
    cases h; cases h1⟩
theorem kpw_below {n₀ : Nat} {A B : World} (hn : n₀ ≤ A.heap.size) (h : Below A.heap.size A B) : KpW n₀ A B := ⟨h.mono hn, fun _ _ _ _ hb => (h.block _ hb.lt).trans hb⟩

/-- What lies between two rounds: the box of the row, the row. -/
structure TI (w : World) (L : List (ByteArray × Int)) (v : Value) (V : World) : Prop where
  bv : Boxed V w.heap.size 24 v
  row : KRow w.heap.size V v L
  below : Below w.heap.size w V
theorem TI.turn {w : World} {L : List (ByteArray × Int)} {v : Value} {V V' : World} {row : Option Nat} (h : TI w L v V) {B : Nat} (hB : w.heap.size ≤ B) (hg : V.grownBy V' row) (hr : ∀ r, row = some r → B ≤ r ∧ ∃ o : Obj, V.heap[r]? = some o ∧ OkW o) : TI w L v V' := by
  have no : ∀ {r : Nat} {cs : Array Value} {t : TypeId} {p : Nat × Nat}, V.heap[r]? = some (.cells cs t p) → t = 24 ∨ t = 32 → row ≠ some r := fun {r cs t p} hb ht e => by
    obtain ⟨_, o, ho, hc⟩ := hr r e
    rw [hb] at ho
    cases ho
    rcases hc with hc | ⟨u, t', ht', hc⟩
    · cases hc
    · injection hc with _ h2 _
      subst h2
      rcases ht with rfl | rfl <;> rcases ht' with h | h <;> exact absurd h (by decide)
  refine ⟨h.bv.kept hg (fun e => no h.bv (.inl rfl) e.symm), h.row.kept hg ?_, h.below.grown hg h.below.size fun k e => ?_⟩
  · rcases h.row.2 with ⟨rfl, _⟩ | ⟨g, cap, cur, rfl, _, hgb, _⟩
    · exact .inl rfl
    · exact .inr fun e => no hgb (.inr rfl) e.symm
  · have := (hr k e).1; omega
theorem TI.later {w : World} {L : List (ByteArray × Int)} {v : Value} {V V' : World} (h : TI w L v V) (hb : Below V.heap.size V V') : TI w L v V' := ⟨(hb.block _ h.bv.lt).trans h.bv, h.row.below hb, h.below.trans (hb.mono h.below.size)⟩
/-- Behind the append and the store. -/
theorem TI.app {w : World} {L : List (ByteArray × Int)} {v v' : Value} {V w1 : World} {U : ByteArray} {i : Int} {tmp : Obj} (h : TI w L v V) (hown : w1.ownsRow w.heap.size 32 2 v' (L.length + 1) (flatK L ++ [.string U, .int .i64 i])) (hgrow : (V.alloc tmp).grownBy w1 v.ownBlock) :
    Boxed w1 w.heap.size 24 v ∧ TI w (L ++ [(U, i)]) v' (w1.setCell ⟨w.heap.size, 0, none⟩ v') ∧ KeepsOthers V (w1.setCell ⟨w.heap.size, 0, none⟩ v') ∧ KpW w.heap.size V (w1.setCell ⟨w.heap.size, 0, none⟩ v') := by
  obtain ⟨a1, a2, a3, a4, a5⟩ := h.bv.appended (by decide) h.row h.below.size (Nat.le_refl _) hown hgrow
  refine ⟨a1, ⟨a2, ?_, h.below.trans a5⟩, a4, a5, fun k u t ht hb => ?_⟩
  · unfold KRow
    rw [List.length_append, flatK_app]
    exact a3
  · have h1 : Boxed w1 k t u := (hb.alloc tmp).kept hgrow (hb.not_row (by rcases ht with rfl | rfl | rfl | rfl <;> decide) h.row)
    refine h1.other (fun e => ?_) _
    subst e
    have := (show w1.heap[_]? = _ from h1).symm.trans a1
    injection this with this
    injection this with _ h2 _
    subst h2
    rcases ht with h | h | h | h <;> exact absurd h (by decide)

set_option maxRecDepth 100000 in
set_option maxHeartbeats 4000000 in
theorem ptokens0_any (s : ByteArray) (w : World) (hT : Tabs w) (hs : s.size ≤ 100000) : Calls Tryd.prog 10 #[.string s] w fun e w' => ∃ v, e = .returned v ∧ RdK w' v (tokL s) ∧ NewV w.heap.size v ∧ Below w.heap.size w w' := by
  obtain ⟨i0, hi, hz0, hz1, hz2⟩ := info_parts infoK
  have HZ2 := Lib.hid hz2; clear hz2
  have HT := Lib.hid hT
  have hsm := words_small s.data.toList
  rw [data_len] at hsm
  obtain ⟨n, hn⟩ : ∃ n, w.heap.size = n := ⟨_, rfl⟩
  obtain ⟨W1, hW1⟩ : ∃ W1, w.alloc (.cells #[.slice none 0 0] 24) = W1 := ⟨_, rfl⟩
  have hs1 : W1.heap.size = n + 1 := by rw [← hW1, World.size_alloc, hn]
  have hbW1 : Below w.heap.size w W1 := by rw [← hW1]; exact (Below.refl _ w).alloc (Nat.le_refl _) _
  obtain ⟨W0, hW0⟩ : ∃ W0, W1.alloc (.cells #[.string s] 9) = W0 := ⟨_, rfl⟩
  have hbW0 : Below w.heap.size w W0 := by rw [← hW0]; exact hbW1.alloc hbW1.size _
  have hTI : TI w [] (.slice none 0 0) W0 := by
    refine ⟨?_, World.ownsRow_nil _ _ _ _, hbW0⟩
    have := (Boxed.new w 24 (.slice none 0 0)).alloc (.cells #[.string s] 9)
    rw [hW1, ] at this
    rwa [hW0] at this
  have hbs : Boxed W0 (n + 1) 9 (.string s) := by
    have := Boxed.new W1 9 (.string s)
    rwa [hW0, hs1] at this
  have HW1 := Lib.hid hW1
  have HW0 := Lib.hid hW0
  have HTI := Lib.hid hTI
  have HN := Lib.hid hn
  have HSM := Lib.hid hsm
  have HBS := Lib.hid hbs
  clear hT hW1 hW0 hTI hbs hsm
  refine (callsIn_wide (n := 9)).1 ?_
  refine callsIn_of_wp_marks Tryd.func10 rfl trivial ?_ rfl
  simp only [Tryd.ntmps10, List.size_toArray, List.length_cons, List.length_nil, Nat.reduceAdd, Nat.reduceSub, Array.replicate_succ, Array.replicate_zero, List.push_toArray, List.append_toArray, List.nil_append, List.cons_append]
  gi_wp2_with (refine ⟨trivial, ?_⟩; gi_at_call 20; refine (callsIn_wide.2 (words_any _ _)).mono ?_; rintro e w' ⟨rfl, rfl⟩)
  rw [HW1.out, HW0.out]
  obtain ⟨X, hX⟩ : ∃ X, wordsL s.data.toList = X := ⟨_, rfl⟩
  have HX := Lib.hid hX
  have hseq := words1_all (n + 1) s hs w W0 HT.out HTI.out.below HBS.out
  have hwe : ∀ k, wEnc s k = #[.int .i64 (k : Int), .string (X.getD k ⟨#[]⟩)] := fun k => by unfold wEnc; rw [hX]
  rw [hX] at hseq HSM
  have HTK : Hid (tokL s = tkL X X.length) := by
    show _ = _
    unfold tokL tkL
    rw [hX, List.take_of_length_le (Nat.le_refl _)]
  clear hX
  refine range_all (fun o h => .inl h) rfl (enters_of Tryd.func32 (by kernel_rfl) rfl) hseq kpw_t (kpw_b HTI.out.below.size) (Below.refl _ _) (fun _ => rfl)
    (fun k V => ∃ v, TI w (tkL X k) v V) ?abid ⟨_, HTI.out⟩
    (fun k => { tmps := #[.string s, undef, .slice none 0 0, .pointer (some ⟨n, 0, none⟩), .int .i64 (k : Int), .string (X.getD k ⟨#[]⟩), undef, .string s, .func (.func 32) #[] #[.pointer (some ⟨n + 1, 0, none⟩)], .int .i64 (k : Int), .string (X.getD k ⟨#[]⟩), undef, undef, undef, undef, undef, undef, undef, undef, undef, undef, undef, undef, undef, undef, undef, undef, undef], defers := [] }) ?assign ?body ?done
  case abid =>
    rintro k A B row ⟨v, h⟩ hg hr
    exact ⟨v, h.turn HTI.out.below.size hg hr⟩
  case assign =>
    intro l' k V R hR
    rw [hwe]
    gi_wp2
    exact hR
  case body =>
    rintro l' k V hk ⟨v, h⟩
    have hgd : X.getD k ⟨#[]⟩ = X[k] := by rw [List.getD_eq_getElem?_getD, List.getElem?_eq_getElem hk]; rfl
    have hst := tkL_step hk
    have hsz := HSM.out.2 X[k] (List.getElem_mem hk)
    have hkl := HSM.out.1
    have htl := tkL_len X k
    rw [hgd]
    clear hgd hwe hseq
    generalize X[k] = G at *
    have CF := Lib.hid (pfolded_any G V (HT.out.below h.below) (by omega))
    have HSz : Hid ((utxt (foldedL G.data.toList)).size = (foldedL G.data.toList).length) := utxt_size _
    have HSt := Lib.hid (fun W => pstop0_any (utxt (foldedL G.data.toList)) W)
    rw [utxt_data] at HSt
    have HD : Hid (keepT (foldedL G.data.toList) = (!isStop (foldedL G.data.toList) && decide ((foldedL G.data.toList).length ≤ 40))) := rfl
    have HST := Lib.hid hst
    clear hst
    generalize foldedL G.data.toList = T at *
    generalize isStop T = st at *
    have hsz2 := HSz.out
    generalize utxt T = U at *
    have hD := HD.out
    rw [← hsz2] at hD
    clear HD HSz hsz2
    have H := Lib.hid h
    clear h
    by_cases h40 : U.size ≤ 40
    · have h40i : ((U.size : Nat) : Int) ≤ 40 := by omega
      cases st with
      | true =>
        have HN2 : Hid (tkL X (k + 1) = tkL X k) := by
          show _ = _
          rw [HST.out, hD]
          simp
        clear HST hD
        gi_wp2_with (first
          | (refine ⟨trivial, ?_⟩; gi_at_call 17; refine (CallsIn.inRound l' (callsIn_wide.2 CF.out)).mono ?_; rintro e w4 ⟨rfl, hb4⟩; have H4 := Lib.hid (H.out.later hb4); have HF4 := Lib.hid (keeps_below hb4); have HK4 := Lib.hid (kpw_below H.out.below.size hb4); clear hb4)
          | (refine ⟨trivial, ?_⟩; gi_at_call 15; refine (CallsIn.inRound l' (callsIn_wide.2 (HSt.out _))).mono ?_; rintro e w5 ⟨rfl, hb5⟩; have H5 := Lib.hid (H4.out.later hb5); have HF5 := Lib.hid (keeps_below hb5); have HK5 := Lib.hid (kpw_below H4.out.below.size hb5); clear hb5))
        refine ⟨(HF4.out.from _).trans (HF5.out.from _), kpw_t HK4.out HK5.out, v, ?_⟩
        rw [HN2.out]
        exact H5.out
      | false =>
        have HN2 : Hid (tkL X (k + 1) = tkL X k ++ [(U, (k : Int))]) := by
          show _ = _
          rw [HST.out, hD, if_pos (by simp [h40])]
        clear HST hD
        gi_wp2_with (first
          | (refine ⟨trivial, ?_⟩; gi_at_call 17; refine (CallsIn.inRound l' (callsIn_wide.2 CF.out)).mono ?_; rintro e w4 ⟨rfl, hb4⟩; have H4 := Lib.hid (H.out.later hb4); have HF4 := Lib.hid (keeps_below hb4); have HK4 := Lib.hid (kpw_below H.out.below.size hb4); clear hb4)
          | (refine ⟨trivial, ?_⟩; gi_at_call 15; refine (CallsIn.inRound l' (callsIn_wide.2 (HSt.out _))).mono ?_; rintro e w5 ⟨rfl, hb5⟩; have H5 := Lib.hid (H4.out.later hb5); have HF5 := Lib.hid (keeps_below hb5); have HK5 := Lib.hid (kpw_below H4.out.below.size hb5); have hc5 := H5.out.bv.cell; rw [hn] at hc5; clear hb5)
          | (gi_at_builtin; refine wpListIn_append_own _ rfl _ _ 24 rfl w.heap.size 32 i0 (.agg #[.string ⟨#[]⟩, .int .i64 0]) 2 24 Tryd.underlying24 hi hz0 hz1 HZ2.out rfl (by decide) _ _ _ rfl (H5.out.row.alloc _) _ 1 1 [.string U, .int .i64 (k : Int)] rfl rfl (two_cellK (by simp)) two_oneK (by unfold maxLen; omega) (by omega) (by have := H5.out.below.size; simp; omega) ?_; intro v1 w6 hown hgrow _; obtain ⟨g', cap', rfl⟩ := ownsRow_succ hown; obtain ⟨hb6, h6, hf6, hk6⟩ := H5.out.app hown hgrow; have hc6 := hb6.cell; have hc7 := hb6.frozen; rw [hn] at hc6 hc7; have H6 := Lib.hid h6; have HF6 := Lib.hid hf6; have HK6 := Lib.hid hk6; clear hb6 h6 hf6 hk6 hown hgrow))
        subst hn
        refine ⟨((HF4.out.from _).trans (HF5.out.from _)).trans (HF6.out.from _), kpw_t (kpw_t HK4.out HK5.out) HK6.out, ?_⟩
        show ∃ v, TI w (tkL X (k + 1)) v _
        rw [HN2.out]
        exact ⟨_, H6.out⟩
    · have h40i : ¬ ((U.size : Nat) : Int) ≤ 40 := by omega
      have HN2 : Hid (tkL X (k + 1) = tkL X k) := by
        show _ = _
        rw [HST.out, hD, if_neg (by simp [h40]), List.append_nil]
      clear HST hD
      gi_wp2_with (refine ⟨trivial, ?_⟩; gi_at_call 17; refine (CallsIn.inRound l' (callsIn_wide.2 CF.out)).mono ?_; rintro e w4 ⟨rfl, hb4⟩; have H4 := Lib.hid (H.out.later hb4); have HF4 := Lib.hid (keeps_below hb4); have HK4 := Lib.hid (kpw_below H.out.below.size hb4); clear hb4)
      refine ⟨trivial, ?_⟩
      gi_wp2
      refine ⟨HF4.out.from _, HK4.out, v, ?_⟩
      rw [HN2.out]
      exact H4.out
  case done =>
    rintro D V hD ⟨v, h⟩ hd
    have hc := h.bv.cell
    rw [hn] at hc
    have H := Lib.hid h
    have HD := Lib.hid hD
    clear h hD hwe hseq
    gi_wp2
    refine ⟨by simp, .inl ⟨_, _, rfl, run_takeDeferred hd, ?_⟩⟩
    refine ⟨_, results_tmp rfl _ _ _, _, rfl, ?_, ?_, ?_⟩
    · rw [HTK.out]
      exact KRow.rd (ownsRow_putObj H.out.row _ hd rfl)
    · rintro a m c rfl
      exact H.out.row.low rfl
    · exact H.out.below.trans (belowK_b (w := w) (Nat.le_refl _) V D _ _ (by have := hbW0.size; have := HD.out; omega) hd rfl rfl)
end Go.Proofs.YtbblmpibekkbfaaDoor
