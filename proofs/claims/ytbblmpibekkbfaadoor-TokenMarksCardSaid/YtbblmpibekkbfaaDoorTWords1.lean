/- The contract of the program's iterator over words. -/
import Derived.Test.YtbblmpibekkbfaaDoorTWordP
namespace Go.Proofs.YtbblmpibekkbfaaDoor
open Go.RowKit Go.Shelf
attribute [local go_sem] Oper.semAt_some

def wEnc (s : ByteArray) (k : Nat) : Array Value := #[.int .i64 (k : Int), .string ((wordsL s.data.toList).getD k ⟨#[]⟩)]
/-- What a round keeps: what lay below n₀, and each box of a number, a Bool, a text, a function. -/
def KpW (n₀ : Nat) (A B : World) : Prop := Below n₀ A B ∧ ∀ k v t, (t = 3 ∨ t = 4 ∨ t = 9 ∨ t = 51) → Boxed A k t v → Boxed B k t v
/-- The iterator turns boxes of numbers and Bools of its own. -/
def OkW (o : Obj) : Prop := o.isCells = false ∨ ∃ v t, (t = 3 ∨ t = 4) ∧ o = .cells #[v] t (0, 0)

/-- The iterator's own boxes, and what the caller keeps. -/
structure WS (J : Nat → World → Prop) (wb : World) (s : ByteArray) (l B Bs n st : Nat) (b : Bool) (V : World) : Prop where
  y : Boxed V B 51 (.func (.yield l) #[] #[])
  p : Boxed V (B + 1) 3 (.int .i64 (n : Int))
  t : Boxed V (B + 1 + 1) 3 (.int .i64 (st : Int))
  i : Boxed V (B + 1 + 1 + 1) 4 (.bool b)
  s1 : Boxed V Bs 9 (.string s)
  s2 : Boxed V (B + 1 + 1 + 1 + 1) 9 (.string s)
  j : J n V
  below : Below wb.heap.size wb V
theorem WS.turn {J : Nat → World → Prop} {wb : World} {s : ByteArray} {l B Bs n st : Nat} {b : Bool} {V V' : World} {row : Option Nat} (h : WS J wb s l B Bs n st b V) (hJ : AbFrom OkW B J) (hwb : wb.heap.size ≤ B) (hg : V.grownBy V' row) (hr : ∀ r, row = some r → B ≤ r ∧ ∃ o : Obj, V.heap[r]? = some o ∧ o.isCells = false) : WS J wb s l B Bs n st b V' := by
  have kb : ∀ {k t v}, Boxed V k t v → Boxed V' k t v := fun hb => hb.kept hg fun e => by
    obtain ⟨_, o, ho, hc⟩ := hr _ e.symm
    rw [show V.heap[_]? = _ from hb] at ho
    cases ho; cases hc
  refine ⟨kb h.y, kb h.p, kb h.t, kb h.i, kb h.s1, kb h.s2, hJ.own (fun o ho => .inl ho) n V V' row h.j hg hr, h.below.grown hg h.below.size fun k e => ?_⟩
  have := (hr k e).1
  omega
theorem WS.later {J : Nat → World → Prop} {wb : World} {s : ByteArray} {l B Bs n st : Nat} {b : Bool} {V V' : World} (h : WS J wb s l B Bs n st b V) (hJ : AbFrom OkW B J) (hb : Below V.heap.size V V') : WS J wb s l B Bs n st b V' := by
  have kb : ∀ {k t v}, Boxed V k t v → Boxed V' k t v := fun h => (hb.block _ h.lt).trans h
  exact ⟨kb h.y, kb h.p, kb h.t, kb h.i, kb h.s1, kb h.s2, hJ.below h.j hb, h.below.trans (hb.mono h.below.size)⟩
/-- A box of one's own is set. -/
theorem WS.set {J : Nat → World → Prop} {wb : World} {l B n : Nat} {V : World} {k : Nat} {t : TypeId} {v : Value} (hJ : AbFrom OkW B J) (hj : J n V) (hk : B ≤ k) (hb : Boxed V k t v) (ht : t = 3 ∨ t = 4) (u : Value) : J n (V.setCell ⟨k, 0, none⟩ u) :=
  hJ n V _ (some k) hj (grownBy_setCell' V k u) fun r e => by
    cases e
    exact ⟨hk, _, hb, .inr ⟨v, t, ht, rfl⟩⟩
theorem WS.setI {J : Nat → World → Prop} {wb : World} {s : ByteArray} {l B Bs n st : Nat} {b : Bool} {V : World} (h : WS J wb s l B Bs n st b V) (hJ : AbFrom OkW B J) (hwb : wb.heap.size ≤ B) (hs : Bs < B) (b' : Bool) : WS J wb s l B Bs n st b' (V.setCell ⟨B + 1 + 1 + 1, 0, none⟩ (.bool b')) :=
  ⟨h.y.other (by omega) _, h.p.other (by omega) _, h.t.other (by omega) _, h.i.set _, h.s1.other (by omega) _, h.s2.other (by omega) _, WS.set (wb := wb) (l := l) hJ h.j (by omega) h.i (.inr rfl) _, h.below.setCell (p := ⟨B + 1 + 1 + 1, 0, none⟩) (by show _ ≤ B + 1 + 1 + 1; omega) _⟩
theorem WS.setT {J : Nat → World → Prop} {wb : World} {s : ByteArray} {l B Bs n st : Nat} {b : Bool} {V : World} (h : WS J wb s l B Bs n st b V) (hJ : AbFrom OkW B J) (hwb : wb.heap.size ≤ B) (hs : Bs < B) (st' : Nat) : WS J wb s l B Bs n st' b (V.setCell ⟨B + 1 + 1, 0, none⟩ (.int .i64 (st' : Int))) :=
  ⟨h.y.other (by omega) _, h.p.other (by omega) _, h.t.set _, h.i.other (by omega) _, h.s1.other (by omega) _, h.s2.other (by omega) _, WS.set (wb := wb) (l := l) hJ h.j (by omega) h.t (.inl rfl) _, h.below.setCell (p := ⟨B + 1 + 1, 0, none⟩) (by show _ ≤ B + 1 + 1; omega) _⟩
/-- Behind yield, and behind pos++. -/
theorem WS.told {J : Nat → World → Prop} {wb : World} {s : ByteArray} {l B Bs n st : Nat} {b : Bool} {V V' : World} (h : WS J wb s l B Bs n st b V) (hk : KpW wb.heap.size V V') (hj : J (n + 1) V') (hJ : AbFrom OkW B J) (hwb : wb.heap.size ≤ B) (hs : Bs < B) : WS J wb s l B Bs (n + 1) st b (V'.setCell ⟨B + 1, 0, none⟩ (.int .i64 ((n + 1 : Nat) : Int))) := by
  have p' := hk.2 _ _ _ (.inl rfl) h.p
  exact ⟨(hk.2 _ _ _ (.inr (.inr (.inr rfl))) h.y).other (by omega) _, p'.set _, (hk.2 _ _ _ (.inl rfl) h.t).other (by omega) _, (hk.2 _ _ _ (.inr (.inl rfl)) h.i).other (by omega) _,
    (hk.2 _ _ _ (.inr (.inr (.inl rfl))) h.s1).other (by omega) _, (hk.2 _ _ _ (.inr (.inr (.inl rfl))) h.s2).other (by omega) _, WS.set (wb := wb) (l := l) hJ hj (by omega) p' (.inl rfl) _,
    (h.below.trans hk.1).setCell (p := ⟨B + 1, 0, none⟩) (by show _ ≤ B + 1; omega) _⟩

theorem yield_inRound {F : Fence} {m : Nat} {P : Program} {l : Nat} (l' : Nat) {args : Array Value} {W : World} {R : Ending → World → Prop} (h : YieldAt F m P l args W R) : YieldAt (F.inRound l') m P l args W R := h
theorem keepsFrom_wide {B B' : Nat} {W W' : World} (hb : B ≤ B') (h : KeepsFrom B W W') : KeepsFrom B' W W' := ⟨h.size, fun k o hk => h.same k o (by omega)⟩
theorem rn_range (L : List UInt8) (p : Nat) : -9223372036854775808 ≤ (rn L p).1 ∧ (rn L p).1 ≤ 9223372036854775807 := by
  unfold rn
  by_cases h : (runeL (L.drop p)).1 < 0
  · rw [(rune_lt h).2.1]; omega
  · obtain ⟨r, e, hr, _⟩ := rune_ge (L := L.drop p) (by omega)
    unfold isRn at hr
    have := (of_decide_eq_true hr).1
    omega
theorem kw_isW (L : List UInt8) (p : Nat) : isW (pcL L p) = kw (rn L p).1 := by
  unfold pcL
  rw [isW_int]
  unfold kw
  by_cases h : 0 ≤ (rn L p).1
  · rw [decide_eq_true h]; rfl
  · rw [decide_eq_false h, kindI_neg (by omega)]; rfl

set_option maxRecDepth 100000 in
set_option maxHeartbeats 4000000 in
theorem words1_all (Bs : Nat) (s : ByteArray) (hs : s.size ≤ 100000) (wb w : World) (hT : Tabs wb) (hwb : Below wb.heap.size wb w) (hBs : Boxed w Bs 9 (.string s)) :
    SeqAll OkW Tryd.prog 32 #[.pointer (some ⟨Bs, 0, none⟩)] (wEnc s) (KpW wb.heap.size) (wordsL s.data.toList).length w := by
  intro l J W hW hAb hY hj0
  have hBW : Boxed W Bs 9 (.string s) := (hW.block _ hBs.lt).trans hBs
  have hWb : Below wb.heap.size wb W := hwb.trans (hW.mono hwb.size)
  have HY := Lib.hid hY
  have HT := Lib.hid hT
  have hlen := data_len s
  clear hW hBs hwb hY hT
  obtain ⟨B, hB⟩ : ∃ B, W.heap.size = B := ⟨_, rfl⟩
  have hBsB : Bs < B := by rw [← hB]; exact hBW.lt
  have hwB : wb.heap.size ≤ B := by rw [← hB]; exact hWb.size
  rw [hB] at hAb
  obtain ⟨W1, hW1⟩ : ∃ W1, (((W.alloc (.cells #[.func (.yield l) #[] #[]] 51)).alloc (.cells #[.int .i64 0] 3)).alloc (.cells #[.int .i64 0] 3)).alloc (.cells #[.bool false] 4) = W1 := ⟨_, rfl⟩
  have hs1 : W1.heap.size = B + 1 + 1 + 1 + 1 := by rw [← hW1, ← hB]; simp
  have hbW1 : Below W.heap.size W W1 := by rw [← hW1]; exact ((((Below.refl _ W).alloc (Nat.le_refl _) _).alloc (by simp) _).alloc (by simp; omega) _).alloc (by simp; omega) _
  obtain ⟨W0, hW0⟩ : ∃ W0, W1.alloc (.cells #[.string s] 9) = W0 := ⟨_, rfl⟩
  have hs0 : W0.heap.size = B + 1 + 1 + 1 + 1 + 1 := by rw [← hW0, World.size_alloc, hs1]
  have hbW0 : Below W.heap.size W W0 := by rw [← hW0]; exact hbW1.alloc hbW1.size _
  have hWS : WS J wb s l B Bs 0 0 false W0 := by
    have y := (((Boxed.new W 51 (.func (.yield l) #[] #[])).alloc (.cells #[.int .i64 0] 3)).alloc (.cells #[.int .i64 0] 3)).alloc (.cells #[.bool false] 4)
    have p := ((Boxed.new (W.alloc (.cells #[.func (.yield l) #[] #[]] 51)) 3 (.int .i64 0)).alloc (.cells #[.int .i64 0] 3)).alloc (.cells #[.bool false] 4)
    have t := (Boxed.new ((W.alloc (.cells #[.func (.yield l) #[] #[]] 51)).alloc (.cells #[.int .i64 0] 3)) 3 (.int .i64 0)).alloc (.cells #[.bool false] 4)
    have i := Boxed.new (((W.alloc (.cells #[.func (.yield l) #[] #[]] 51)).alloc (.cells #[.int .i64 0] 3)).alloc (.cells #[.int .i64 0] 3)) 4 (.bool false)
    rw [hW1] at y p t i
    simp only [World.size_alloc, hB] at y p t i
    have r := Boxed.new W1 9 (.string s)
    rw [hs1] at r
    have y := y.alloc (.cells #[.string s] 9)
    have p := p.alloc (.cells #[.string s] 9)
    have t := t.alloc (.cells #[.string s] 9)
    have i := i.alloc (.cells #[.string s] 9)
    rw [hW0] at y p t i r
    exact ⟨y, p, t, i, (hbW0.block _ hBW.lt).trans hBW, r, hAb.below hj0 hbW0, hWb.trans (hbW0.mono hWb.size)⟩
  refine (callsIn_wide (n := 9)).1 ?_
  refine callsIn_of_wp_marks Tryd.func32 rfl trivial ?_ rfl
  simp only [Tryd.ntmps32, List.size_toArray, List.length_cons, List.length_nil, Nat.reduceAdd, Nat.reduceSub, Array.replicate_succ, Array.replicate_zero, List.push_toArray, List.append_toArray, List.nil_append, List.cons_append]
  have hc := Boxed.cell (W := W1) (B := Bs) (t := 9) (v := .string s) ((hbW1.block _ hBW.lt).trans hBW)
  rw [← hW1] at hc
  have HWS := Lib.hid hWS
  have HAb := Lib.hid hAb
  have HW1 := Lib.hid hW1
  have HW0 := Lib.hid hW0
  have HS1 := Lib.hid hs1
  clear hWS hAb hj0 hBW hbW0 hbW1 hWb hW1 hW0 hs1
  gi_wp2_with (refine ⟨trivial, ?_⟩; gi_at_call 25; refine (callsIn_wide.2 (runes_any _ _)).mono ?_; rintro e w' ⟨rfl, rfl⟩)
  rw [HW1.out, HW0.out]
  clear hc HW1 HW0 HS1
  obtain ⟨K, hK⟩ : ∃ K, (cut s.data.toList).length = K := ⟨_, rfl⟩
  refine range_all (fun o h => h) rfl (enters_of Tryd.func38 (by kernel_rfl) rfl) (runes1_all (B + 1 + 1 + 1 + 1) s hs wb W0 HT.out HWS.out.below HWS.out.s2.cell) kpu_t (kpu_b HWS.out.below.size) (Below.refl _ _) (fun _ => rfl)
    (fun k V => ∃ gs g b st, MtW s.data.toList k gs g b st ∧ WS J wb s l B Bs gs.length st b V) ?abid ⟨[], [], false, 0, mt_zero _, HWS.out⟩
    (fun k => { tmps := #[.func (.yield l) #[] #[], .pointer (some ⟨Bs, 0, none⟩), .pointer (some ⟨B, 0, none⟩), .pointer (some ⟨B + 1, 0, none⟩), .pointer (some ⟨B + 1 + 1, 0, none⟩), .pointer (some ⟨B + 1 + 1 + 1, 0, none⟩), .int .i64 ((plc s.data.toList k : Nat) : Int), .int .i64 (rn s.data.toList (plc s.data.toList k)).1, undef, .string s, .func (.func 38) #[] #[.pointer (some ⟨B + 1 + 1 + 1 + 1, 0, none⟩)], .int .i64 ((plc s.data.toList k : Nat) : Int), .int .i64 (rn s.data.toList (plc s.data.toList k)).1, undef, undef, undef, undef, undef, undef, undef, undef, undef, undef, undef, undef, undef, undef, undef, undef, undef, undef, undef, undef, undef, undef, undef, undef, undef, undef, undef, undef, undef, undef, undef], defers := [] }) ?assign ?body ?done
  case abid =>
    rintro k X Y row ⟨gs, g, b, st, h1, h2⟩ hg hr
    exact ⟨gs, g, b, st, h1, h2.turn HAb.out hwB hg fun r e => ⟨by have := (hr r e).1; omega, (hr r e).2⟩⟩
  case assign =>
    intro l' k V R hR
    unfold rEnc
    gi_wp2
    exact hR
  case body =>
    rintro l' k V hk ⟨gs, g, b, st, h1, h2⟩
    have hpl := plc_lt hk
    have hr1 := rn_range s.data.toList (plc s.data.toList k)
    have HKW : Hid (isW (pcL s.data.toList (plc s.data.toList k)) = kw (rn s.data.toList (plc s.data.toList k)).1) := kw_isW _ _
    have CI := Lib.hid (fun V' h => inword_any (rn s.data.toList (plc s.data.toList k)).1 V' h hr1)
    have HM := Lib.hid h1
    have HS := Lib.hid h2
    have hin := h2.i.cell
    have hif := h2.i.frozen
    have htf := h2.t.frozen
    have HTV := Lib.hid (HT.out.below h2.below)
    have hmx : Tryd.prog.follows .mixedOrders = true := by kernel_rfl
    clear h1 h2 hr1
    obtain ⟨r, hr⟩ : ∃ r, (rn s.data.toList (plc s.data.toList k)).1 = r := ⟨_, rfl⟩
    rw [hr] at HKW CI ⊢
    clear hr
    obtain ⟨wd, hwd⟩ : ∃ wd, kw r = wd := ⟨_, rfl⟩
    have HKW2 := Lib.hid (HKW.out.trans hwd)
    rw [hwd] at CI
    clear hwd HKW
    obtain ⟨pk, hpk⟩ : ∃ pk, plc s.data.toList k = pk := ⟨_, rfl⟩
    have HPK := Lib.hid hpk
    rw [hpk] at hpl ⊢
    clear hpk
    cases b with
    | false =>
      cases wd with
      | false =>
        gi_wp2_with (refine ⟨trivial, ?_⟩; gi_at_call 33; refine (CallsIn.inRound l' (callsIn_wide.2 (CI.out V HTV.out))).mono ?_; rintro e w4 ⟨rfl, hb4⟩; have H4 := Lib.hid (HS.out.later HAb.out hb4); have HF4 := Lib.hid (keeps_below hb4); have HB4 : Hid (Below wb.heap.size V w4) := hb4.mono HS.out.below.size; have hi4 := H4.out.i.cell; have hi5 := H4.out.i.frozen; have ht5 := H4.out.t.frozen; clear hb4)
        have H5 := Lib.hid (H4.out.setI HAb.out hwB hBsB false)
        refine ⟨(HF4.out.from _).trans ((KeepsOthers.setCell _ _ _).from _), ⟨HB4.out.setCell (p := ⟨B + 1 + 1 + 1, 0, none⟩) (by show _ ≤ B + 1 + 1 + 1; omega) _, fun _ => H5.out.s2.cell⟩, gs, g, false, st, mt_out HM.out hk HKW2.out, H5.out⟩
      | true =>
        gi_wp2_with (refine ⟨trivial, ?_⟩; gi_at_call 33; refine (CallsIn.inRound l' (callsIn_wide.2 (CI.out V HTV.out))).mono ?_; rintro e w4 ⟨rfl, hb4⟩; have H4 := Lib.hid (HS.out.later HAb.out hb4); have HF4 := Lib.hid (keeps_below hb4); have HB4 : Hid (Below wb.heap.size V w4) := hb4.mono HS.out.below.size; have hi4 := H4.out.i.cell; have hi5 := H4.out.i.frozen; have ht5 := H4.out.t.frozen; have H5i := H4.out.setI HAb.out hwB hBsB true; have ht6 := H5i.t.cell; have ht7 := H5i.t.frozen; clear H5i; clear hb4)
        have H5 := Lib.hid ((H4.out.setI HAb.out hwB hBsB true).setT HAb.out hwB hBsB pk)
        have hmt : MtW s.data.toList (k + 1) gs [pcL s.data.toList pk] true pk := by
          have := mt_new HM.out hk HKW2.out
          rw [HPK.out] at this
          exact this
        exact ⟨((HF4.out.from _).trans ((KeepsOthers.setCell _ _ _).from _)).trans ((KeepsOthers.setCell _ _ _).from _), ⟨(HB4.out.setCell (p := ⟨B + 1 + 1 + 1, 0, none⟩) (by show _ ≤ B + 1 + 1 + 1; omega) _).setCell (p := ⟨B + 1 + 1, 0, none⟩) (by show _ ≤ B + 1 + 1; omega) _, fun _ => H5.out.s2.cell⟩, gs, _, true, pk, hmt, H5.out⟩
    | true =>
      cases wd with
      | false =>
        gi_wp2_with (refine ⟨trivial, ?_⟩; gi_at_call 33; refine (CallsIn.inRound l' (callsIn_wide.2 (CI.out V HTV.out))).mono ?_; rintro e w4 ⟨rfl, hb4⟩; have H4 := Lib.hid (HS.out.later HAb.out hb4); have HF4 := Lib.hid (keeps_below hb4); have HB4 : Hid (Below wb.heap.size V w4) := hb4.mono HS.out.below.size; have hi4 := H4.out.i.cell; have hi5 := H4.out.i.frozen; have ht5 := H4.out.t.frozen; clear hb4)
        have H5 := Lib.hid (H4.out.setI HAb.out hwB hBsB false)
        obtain ⟨V5, hV5⟩ : ∃ V5, w4.setCell ⟨B + 1 + 1 + 1, 0, none⟩ (.bool false) = V5 := ⟨_, rfl⟩
        have HF5 : Hid (KeepsFrom B V V5.drew) := by
          rw [← hV5]
          exact ((HF4.out.from _).trans ((KeepsOthers.setCell _ _ _).from _)).trans ((KeepsOthers.drew _).from _)
        have HB5 : Hid (Below wb.heap.size V V5.drew) := by
          rw [← hV5]
          exact (HB4.out.setCell (p := ⟨B + 1 + 1 + 1, 0, none⟩) (by show _ ≤ B + 1 + 1 + 1; omega) _).drew
        rw [hV5] at H5 ⊢
        clear hV5 hi4 hi5 ht5 H4 HF4 HB4
        have H6 := Lib.hid (H5.out.later HAb.out ((Below.refl _ V5).drew))
        obtain ⟨rw1, hrw⟩ := word_closed HM.out hk HKW2.out
        have hlt : gs.length < (wordsL s.data.toList).length := by rw [hrw, List.length_append, List.length_map, List.length_cons]; omega
        have hwe : wEnc s gs.length = #[.int .i64 (gs.length : Int), .string (flatG g)] := by
          unfold wEnc
          rw [hrw, List.getD_eq_getElem?_getD, List.getElem?_append_right (by rw [List.length_map]; exact Nat.le_refl _), List.length_map, Nat.sub_self]
          rfl
        have hy0 := HY.out gs.length V5.drew hlt H6.out.j
        rw [hwe, hB] at hy0
        have hlo := HM.out.lo
        have hX := word_extract HM.out
        rw [HPK.out] at hlo hX
        have hgl := gs_len HM.out
        refine wpIn_mono (regionA (lY := l) (Bs := Bs) (By := B) (Bp := B + 1) (Bt := B + 1 + 1) (k := gs.length) (st := st) (en := pk) (s := s) (X := flatG g) (G := fun w' => J (gs.length + 1) w' ∧ KpW wb.heap.size V5.drew w' ∧ KeepsFrom B V5.drew w')
          (fun _ => trivial) rfl hmx (by kernel_rfl) (by kernel_rfl) (by kernel_rfl) (by kernel_rfl) (by kernel_rfl) (by kernel_rfl) (by kernel_rfl) (by kernel_rfl) (by kernel_rfl) (by kernel_rfl)
          rfl rfl rfl rfl rfl rfl rfl H5.out.y.cell H5.out.p.cell H5.out.s1.cell H5.out.t.cell hlo (by omega) hX hs (yield_inRound l' hy0)) ?_
        rintro e a6 w6 ⟨rfl, ha6, hj6, hk6, hf6⟩
        have ha7 : a6 = { tmps := #[.func (.yield l) #[] #[], .pointer (some ⟨Bs, 0, none⟩), .pointer (some ⟨B, 0, none⟩), .pointer (some ⟨B + 1, 0, none⟩), .pointer (some ⟨B + 1 + 1, 0, none⟩), .pointer (some ⟨B + 1 + 1 + 1, 0, none⟩), .int .i64 (pk : Int), .int .i64 r, .bool true, .string s, .func (.func 38) #[] #[.pointer (some ⟨B + 1 + 1 + 1 + 1, 0, none⟩)], .int .i64 (pk : Int), .int .i64 r, .bool true, .int .i64 r, .bool false, .bool false, .bool false, undef, undef, .bool false, undef, .bool true, .bool true, .bool false, .bool true, .bool true, .func (.yield l) #[] #[], .int .i64 (gs.length : Int), .string s, .int .i64 (st : Int), .int .i64 (pk : Int), .string (flatG g), .bool true, .bool false, undef, undef, undef, undef, undef, undef, undef, undef, undef], defers := [] } := ha6.trans (by kernel_rfl)
        subst ha7
        have H7 := Lib.hid (H6.out.told hk6 hj6 HAb.out hwB hBsB)
        have hp6 := (hk6.2 _ _ _ (.inl rfl) H6.out.p).cell
        have hp7 := (hk6.2 _ _ _ (.inl rfl) H6.out.p).frozen
        have HF6 : Hid (KeepsFrom B V w6) := HF5.out.trans hf6
        have HB6 : Hid (Below wb.heap.size V w6) := HB5.out.trans hk6.1
        have hgz : (gs.length : Int) ≤ 100000 := by omega
        have hgz0 : (0 : Int) ≤ (gs.length : Int) := by omega
        clear ha6 hj6 hk6 hf6 hgl hX hlo hy0 hwe hlt hrw HY
        gi_wp2
        refine ⟨(keepsFrom_wide (by omega) HF6.out).trans ((KeepsOthers.setCell _ _ _).from _), ⟨HB6.out.setCell (p := ⟨B + 1, 0, none⟩) (by show _ ≤ B + 1; omega) _, fun _ => H7.out.s2.cell⟩, gs ++ [g], g, false, st, mt_close HM.out hk HKW2.out, ?_⟩
        rw [List.length_append]
        exact H7.out
      | true =>
        gi_wp2_with (refine ⟨trivial, ?_⟩; gi_at_call 33; refine (CallsIn.inRound l' (callsIn_wide.2 (CI.out V HTV.out))).mono ?_; rintro e w4 ⟨rfl, hb4⟩; have H4 := Lib.hid (HS.out.later HAb.out hb4); have HF4 := Lib.hid (keeps_below hb4); have HB4 : Hid (Below wb.heap.size V w4) := hb4.mono HS.out.below.size; have hi4 := H4.out.i.cell; have hi5 := H4.out.i.frozen; have ht5 := H4.out.t.frozen; clear hb4)
        have H5 := Lib.hid (H4.out.setI HAb.out hwB hBsB true)
        refine ⟨(HF4.out.from _).trans ((KeepsOthers.setCell _ _ _).from _), ⟨HB4.out.setCell (p := ⟨B + 1 + 1 + 1, 0, none⟩) (by show _ ≤ B + 1 + 1 + 1; omega) _, fun _ => H5.out.s2.cell⟩, gs, _, true, st, mt_in HM.out hk HKW2.out, H5.out⟩
  case done =>
    rintro D V hD ⟨gs, g, b, st, h1, h2⟩ hd
    have hW := words_done h1
    have HM := Lib.hid h1
    have HS := Lib.hid h2
    have hin := h2.i.cell
    have hDB : B ≤ D := by omega
    clear h1 h2
    cases b with
    | false =>
      have hK2 : (wordsL s.data.toList).length = gs.length := by rw [hW, if_neg (by simp), List.length_map]
      have HG := Lib.hid HS.out.j
      have HK2 := Lib.hid hK2
      clear hK2 hW HY
      gi_wp2
      refine ⟨by simp, .inl ⟨_, _, rfl, run_takeDeferred hd, ?_⟩⟩
      refine ⟨_, results_none rfl _ _ _, ⟨_, rfl⟩, ?_⟩
      rw [HK2.out]
      exact (HAb.out.own (fun o h => .inl h)).putObj _ HG.out hDB hd rfl
    | true =>
      have hK2 : (wordsL s.data.toList).length = gs.length + 1 := by rw [hW, if_pos rfl, List.length_append, List.length_map]; rfl
      have HK2 := Lib.hid hK2
      have hlo := HM.out.lo
      have hX := word_extract HM.out
      rw [plc_end, hlen] at hlo hX
      have H6 := Lib.hid (HS.out.later HAb.out ((Below.refl _ V).drew))
      have hwe : wEnc s gs.length = #[.int .i64 (gs.length : Int), .string (flatG g)] := by
        unfold wEnc
        rw [hW, if_pos rfl, List.getD_eq_getElem?_getD, List.getElem?_append_right (by rw [List.length_map]; exact Nat.le_refl _), List.length_map, Nat.sub_self]
        rfl
      have hy0 := HY.out gs.length V.drew (by rw [hK2]; omega) H6.out.j
      rw [hwe, hB] at hy0
      have hdd : V.drew.heap[D]? = some (.deferred (some [])) := hd
      have hmx : Tryd.prog.follows .mixedOrders = true := by kernel_rfl
      clear hK2 hW HY
      gi_wp2
      refine wpIn_mono (regionB (lY := l) (Bs := Bs) (By := B) (Bp := B + 1) (Bt := B + 1 + 1) (k := gs.length) (st := st) (s := s) (X := flatG g) (G := fun w' => J (gs.length + 1) w' ∧ KpW wb.heap.size V.drew w' ∧ KeepsFrom B V.drew w')
        (fun _ => trivial) rfl hmx (by kernel_rfl) (by kernel_rfl) (by kernel_rfl) (by kernel_rfl) (by kernel_rfl) (by kernel_rfl) (by kernel_rfl) (by kernel_rfl)
        rfl rfl rfl rfl rfl rfl HS.out.y.cell HS.out.p.cell HS.out.s1.cell HS.out.t.cell hlo hX hs hy0) ?_
      rintro e a6 w6 ⟨rfl, ha6, hj6, hk6, hf6⟩
      have ha7 : a6 = { tmps := #[.func (.yield l) #[] #[], .pointer (some ⟨Bs, 0, none⟩), .pointer (some ⟨B, 0, none⟩), .pointer (some ⟨B + 1, 0, none⟩), .pointer (some ⟨B + 1 + 1, 0, none⟩), .pointer (some ⟨B + 1 + 1 + 1, 0, none⟩), undef, undef, undef, .string s, .func (.func 38) #[] #[.pointer (some ⟨B + 1 + 1 + 1 + 1, 0, none⟩)], undef, undef, undef, undef, undef, undef, undef, undef, undef, undef, undef, undef, undef, undef, undef, undef, undef, undef, undef, undef, undef, undef, undef, undef, undef, undef, .bool true, .func (.yield l) #[] #[], .int .i64 (gs.length : Int), .string s, .int .i64 (st : Int), .string (flatG g), .bool true], defers := [{ target := .collected D, args := #[] }] } := ha6.trans (by kernel_rfl)
      subst ha7
      have hd6 := hf6.same D _ hDB hdd rfl
      have HG := Lib.hid hj6
      clear ha6 hj6 hk6 hf6 hd hdd hy0 hwe hX hlo hin
      gi_wp2
      refine ⟨by simp, .inl ⟨_, _, rfl, run_takeDeferred hd6, ?_⟩⟩
      refine ⟨_, results_none rfl _ _ _, ⟨_, rfl⟩, ?_⟩
      rw [HK2.out]
      exact (HAb.out.own (fun o h => .inl h)).putObj _ HG.out hDB hd6 rfl
end Go.Proofs.YtbblmpibekkbfaaDoor
