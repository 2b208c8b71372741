/- UtfParts: the walk. -/
import Derived.Test.YtbmpnakhaeaneaaDoorUReadsW
import Derived.Test.YtbmpnakhaeaneaaDoorUCatR
namespace Go.Proofs.YtbmpnakhaeaneaaDoor
open Go.RowKit Go.Shelf
attribute [local go_sem] Oper.semAt_some

/-- The bytes that a place gives when its rune is written again. -/
def opL (L : List UInt8) (p : Nat) : List UInt8 := (pcL L p).2
def oL (s : ByteArray) (pre : List (Fin s.size)) : List UInt8 := pre.flatMap fun x => opL s.data.toList x.1
def badL (s : ByteArray) (pre : List (Fin s.size)) : Nat := (pre.filter fun x => decide ((rn s.data.toList x.1).1 < 0)).length
theorem o_snoc (s : ByteArray) (pre : List (Fin s.size)) (x : Fin s.size) : oL s (pre ++ [x]) = oL s pre ++ opL s.data.toList x.1 := by unfold oL; rw [List.flatMap_append, List.flatMap_singleton]
theorem bad_snoc (s : ByteArray) (pre : List (Fin s.size)) (x : Fin s.size) : badL s (pre ++ [x]) = badL s pre + (if (rn s.data.toList x.1).1 < 0 then 1 else 0) := by
  unfold badL
  rw [List.filter_append, List.length_append]
  congr 1
  by_cases h : (rn s.data.toList x.1).1 < 0
  · rw [if_pos h, List.filter_cons_of_pos (by simpa using h)]; rfl
  · rw [if_neg h, List.filter_cons_of_neg (by simpa using h)]; rfl
theorem bad_le (s : ByteArray) (pre : List (Fin s.size)) : badL s pre ≤ pre.length := List.length_filter_le ..
theorem op_len {L : List UInt8} {p : Nat} (h : p < L.length) : (opL L p).length = (rn L p).2 := by
  have := rn_step h
  show ((L.drop p).take (rn L p).2).length = _
  rw [List.length_take, List.length_drop]
  omega
theorem o_end (s : ByteArray) : ∀ (q : Nat) (pre : List (Fin s.size)), chainL s.data.toList q pre → q + (oL s pre).length = endL s.data.toList q pre
  | _, [], _ => rfl
  | q, x :: T, h => by
    have hl := op_len (L := s.data.toList) (p := x.1) (by rw [data_len]; exact x.2)
    have := o_end s (q + (rn s.data.toList x.1).2) T h.2
    show q + (opL s.data.toList x.1 ++ oL s T).length = endL s.data.toList (q + (rn s.data.toList x.1).2) T
    rw [List.length_append, hl]
    omega
theorem op_le {L : List UInt8} {p : Nat} (h : p < L.length) : (opL L p).length ≤ 4 := by
  rw [op_len h]
  have hne : L.drop p ≠ [] := fun e => by
    have := congrArg List.length e
    rw [List.length_drop] at this
    simp at this
    omega
  exact (rune_pos hne).2.2
theorem o_le (s : ByteArray) (pre : List (Fin s.size)) : (oL s pre).length ≤ 4 * pre.length := by
  induction pre with
  | nil => exact Nat.le_refl _
  | cons x T ih =>
    have := op_le (L := s.data.toList) (p := x.1) (by rw [data_len]; exact x.2)
    show (opL s.data.toList x.1 ++ oL s T).length ≤ _
    rw [List.length_append, List.length_cons]
    omega
theorem op_neg {s : ByteArray} {p : Nat} (h : p < s.size) (hn : (rn s.data.toList p).1 < 0) : opL s.data.toList p = [s[p]] := by
  have := fp_neg h hn
  unfold fpL foldP at this
  rw [if_pos (show (pcL s.data.toList p).1 < 0 from hn)] at this
  exact this
theorem op_pos {L : List UInt8} {p : Nat} (hn : ¬ (rn L p).1 < 0) : ∃ k : Nat, (rn L p).1 = k ∧ isRn k = true ∧ opL L p = byts k := by
  obtain ⟨k, e1, e2, e3⟩ := rune_ge (L := L.drop p) (show 0 ≤ (runeL (L.drop p)).1 by unfold rn at hn; omega)
  exact ⟨k, e1, e2, e3.symm⟩
/-- All pieces together are the text; it is valid just if none is bad. -/
theorem o_all (s : ByteArray) {T : List (Fin s.size)} (h : chainL s.data.toList 0 T) (he : endL s.data.toList 0 T = s.size) : oL s T = s.data.toList ∧ validL s.data.toList = decide (badL s T = 0) := by
  have hc := chain_all s h he
  constructor
  · have := cut_join s.data.toList
    rw [hc, List.flatMap_map] at this
    exact this
  · unfold validL badL
    rw [hc, List.all_map]
    by_cases hb : (T.filter fun x => decide ((rn s.data.toList x.1).1 < 0)).length = 0
    · rw [decide_eq_true hb, List.all_eq_true]
      intro x hx
      have := List.filter_eq_nil_iff.1 (List.length_eq_zero_iff.1 hb) x hx
      show decide (0 ≤ (rn s.data.toList x.1).1) = true
      simp at this
      exact decide_eq_true this
    · rw [decide_eq_false hb, List.all_eq_false]
      obtain ⟨x, hx⟩ := List.exists_mem_of_length_pos (Nat.pos_of_ne_zero hb)
      obtain ⟨hx1, hx2⟩ := List.mem_filter.1 hx
      refine ⟨x, hx1, ?_⟩
      show ¬ decide (0 ≤ (rn s.data.toList x.1).1) = true
      simp at hx2 ⊢
      omega

/-- What UtfParts' cells hold between two rounds. -/
structure Pd (s : ByteArray) (w : World) (Bo : Nat) (o : ByteArray) (n b : Int) (W : World) : Prop where
  co : Boxed W Bo 9 (.string o)
  cn : Boxed W (Bo + 1) 3 (.int .i64 n)
  cb : Boxed W (Bo + 1 + 1) 3 (.int .i64 b)
  ct : Boxed W (Bo + 1 + 1 + 1) 9 (.string s)
  c0 : Boxed W w.heap.size 9 (.string s)
  c2 : Boxed W (w.heap.size + 1) 4 (.bool false)
  below : Below w.heap.size w W
theorem Pd.kept {s o : ByteArray} {n b : Int} {w A B : World} {Bo B0 : Nat} (h : Pd s w Bo o n b A) {row : Option Nat} (hg : A.grownBy B row) (hB0 : w.heap.size ≤ B0) (hr : ∀ r, row = some r → B0 ≤ r ∧ ∃ o : Obj, A.heap[r]? = some o ∧ o.isCells = false) : Pd s w Bo o n b B :=
  ⟨boxed_kept h.co hg hr, boxed_kept h.cn hg hr, boxed_kept h.cb hg hr, boxed_kept h.ct hg hr, boxed_kept h.c0 hg hr, boxed_kept h.c2 hg hr, h.below.grown hg h.below.size (fun k e => by have := (hr k e).1; omega)⟩
theorem Pd.later {s o : ByteArray} {n b : Int} {w A B : World} {Bo : Nat} (h : Pd s w Bo o n b A) (hb : Below A.heap.size A B) : Pd s w Bo o n b B :=
  ⟨boxed_later h.co hb, boxed_later h.cn hb, boxed_later h.cb hb, boxed_later h.ct hb, boxed_later h.c0 hb, boxed_later h.c2 hb, h.below.trans (hb.mono h.below.size)⟩
theorem Pd.setO {s o : ByteArray} {n b : Int} {w A : World} {Bo : Nat} (o' : ByteArray) (h : Pd s w Bo o n b A) (hlt : w.heap.size + 1 < Bo) : Pd s w Bo o' n b (A.setCell ⟨Bo, 0, none⟩ (.string o')) :=
  ⟨h.co.set _, h.cn.other (by omega) _, h.cb.other (by omega) _, h.ct.other (by omega) _, h.c0.other (by omega) _, h.c2.other (by omega) _, h.below.setCell (p := ⟨Bo, 0, none⟩) (by show w.heap.size ≤ Bo; omega) _⟩
theorem Pd.setN {s o : ByteArray} {n b : Int} {w A : World} {Bo : Nat} (n' : Int) (h : Pd s w Bo o n b A) (hlt : w.heap.size + 1 < Bo) : Pd s w Bo o n' b (A.setCell ⟨Bo + 1, 0, none⟩ (.int .i64 n')) :=
  ⟨h.co.other (by omega) _, h.cn.set _, h.cb.other (by omega) _, h.ct.other (by omega) _, h.c0.other (by omega) _, h.c2.other (by omega) _, h.below.setCell (p := ⟨Bo + 1, 0, none⟩) (by show w.heap.size ≤ Bo + 1; omega) _⟩
theorem Pd.setB {s o : ByteArray} {n b : Int} {w A : World} {Bo : Nat} (b' : Int) (h : Pd s w Bo o n b A) (hlt : w.heap.size + 1 < Bo) : Pd s w Bo o n b' (A.setCell ⟨Bo + 1 + 1, 0, none⟩ (.int .i64 b')) :=
  ⟨h.co.other (by omega) _, h.cn.other (by omega) _, h.cb.set _, h.ct.other (by omega) _, h.c0.other (by omega) _, h.c2.other (by omega) _, h.below.setCell (p := ⟨Bo + 1 + 1, 0, none⟩) (by show w.heap.size ≤ Bo + 1 + 1; omega) _⟩
theorem Pd.drew {s o : ByteArray} {n b : Int} {w A : World} {Bo : Nat} (h : Pd s w Bo o n b A) : Pd s w Bo o n b A.drew := h.later (Below.refl _ A).drew
def PdI (s : ByteArray) (w : World) (Bo : Nat) (pre : List (Fin s.size)) (W : World) : Prop := Pd s w Bo (utxt (oL s pre)) (((oL s pre).length : Nat) : Int) ((badL s pre : Nat) : Int) W
/-- A round has left: only if the places were not told in order. -/
def PdX (s : ByteArray) (c : Code) (pre : List (Fin s.size)) (_ : World) : Prop := c = .ret ∧ ¬ chainL s.data.toList 0 pre
theorem pdI_own (s : ByteArray) (w w0 : World) (Bo : Nat) (h : w.heap.size ≤ w0.heap.size) : OwnFrom w0.heap.size (PdI s w Bo) := fun _ _ _ _ hs hg hr => hs.kept hg h hr
theorem pdX_own (s : ByteArray) (B : Nat) (c : Code) : OwnFrom B (PdX s c) := fun _ _ _ _ hs _ _ => hs
/-- The argument's box and the answer's. -/
structure Pe (s : ByteArray) (w W : World) : Prop where
  c0 : Boxed W w.heap.size 9 (.string s)
  c2 : Boxed W (w.heap.size + 1) 4 (.bool false)
  below : Below w.heap.size w W
theorem Pe.later {s : ByteArray} {w A B : World} (h : Pe s w A) (hb : Below A.heap.size A B) : Pe s w B := ⟨boxed_later h.c0 hb, boxed_later h.c2 hb, h.below.trans (hb.mono h.below.size)⟩

set_option maxRecDepth 100000 in
set_option maxHeartbeats 4000000 in
theorem parts_walk (s t : ByteArray) (w : World) (hT : Tabs w) (hs : s.size ≤ maxLen) (ht : t.size ≤ maxLen) : Calls Tryd.prog 7 #[.string s, .string t] w fun e w' => e = .returned (.bool true) ∧ Below w.heap.size w w' := by
  have HT := Lib.hid hT; clear hT
  unfold maxLen at hs ht
  have hbw : Below w.heap.size w ((w.alloc (.cells #[.string s] 9)).alloc (.cells #[.bool false] 4)) := ((Below.refl _ w).alloc (Nat.le_refl _) _).alloc (by simp) _
  have CS : Hid (∀ W, Below w.heap.size w W → Calls Tryd.prog 9 #[] W fun e w' => e = .returned (.bool true) ∧ Below W.heap.size W w') := fun W hb => shown10_any W (HT.out.below hb)
  refine (callsIn_wide (n := 5)).1 ?_
  refine callsIn_of_wp_marks Tryd.func7 rfl trivial ?_ rfl
  simp only [Tryd.ntmps7, List.size_toArray, List.length_cons, List.length_nil, Nat.reduceAdd, Nat.reduceSub, Array.replicate_succ, Array.replicate_zero, List.push_toArray, List.append_toArray, List.nil_append, List.cons_append]
  gi_wp2_with fail
  obtain ⟨W0, hW0⟩ : ∃ W0, (w.alloc (.cells #[.string s] 9)).alloc (.cells #[.bool false] 4) = W0 := ⟨_, rfl⟩
  have k0 : Boxed W0 w.heap.size 9 (.string s) := by rw [← hW0]; exact (Boxed.new w _ _).alloc _
  have k2 : Boxed W0 (w.heap.size + 1) 4 (.bool false) := by
    rw [← hW0]
    have := Boxed.new (w.alloc (.cells #[.string s] 9)) 4 (.bool false)
    rw [World.size_alloc] at this
    exact this
  rw [hW0] at hbw ⊢
  clear hW0
  have E0 : Hid (Pe s w W0) := ⟨k0, k2, hbw⟩
  clear hbw k0 k2
  refine ⟨trivial, ?_⟩
  refine (callsIn_wide.2 (CS.out W0 E0.out.below)).mono ?_
  rintro e w1 ⟨rfl, hb1⟩
  have E1 := Lib.hid (E0.out.later hb1)
  have c0 := E1.out.c0.cell
  have c2 := E1.out.c2.cell
  have f2 := E1.out.c2.frozen
  clear hb1 E0 CS
  by_cases h1 : s.size ≤ 500 ∧ t.size ≤ 500
  · obtain ⟨h1, h2⟩ := h1
    have h1z : ¬ (500 : Int) < (s.size : Int) := by omega
    have h2z : ¬ (500 : Int) < (t.size : Int) := by omega
    have d1 : decide ((500 : Int) < (s.size : Int)) = false := decide_eq_false h1z
    have d2 : decide ((500 : Int) < (t.size : Int)) = false := decide_eq_false h2z
    have hcat : ¬ 9223372036854775807 < s.size + t.size := by omega
    have CV : Hid (∀ W, Below w.heap.size w W → Calls Tryd.prog 12 #[.string s] W fun e w' => e = .returned (.bool (validL s.data.toList)) ∧ Below W.heap.size W w') := fun W hb => pvalid_any s W (HT.out.below hb) (by omega)
    have CU : Hid (∀ W, Below w.heap.size w W → Calls Tryd.prog 12 #[.string t] W fun e w' => e = .returned (.bool (validL t.data.toList)) ∧ Below W.heap.size W w') := fun W hb => pvalid_any t W (HT.out.below hb) (by omega)
    have CA : Hid (∃ va, (validL s.data.toList = true → va = validL t.data.toList) ∧ ∀ W, Below w.heap.size w W → Calls Tryd.prog 12 #[.string (s ++ t)] W fun e w' => e = .returned (.bool va) ∧ Below W.heap.size W w') := by
      have e : s ++ t = utxt (s.data.toList ++ t.data.toList) := utxt_app s.data.toList t.data.toList
      refine ⟨validL (s.data.toList ++ t.data.toList), fun h => valid_append h, fun W hb => ?_⟩
      have := pvalid_any (s ++ t) W (HT.out.below hb) (by rw [e, utxt_size, List.length_append, data_len, data_len]; omega)
      rw [e, utxt_data] at this
      rw [e]
      exact this
    obtain ⟨va, hva, hCA⟩ := CA.out
    have HVA := Lib.hid hva
    have CB := Lib.hid hCA
    clear hva hCA CA
    have HVS : Hid (∀ v, validL s.data.toList = v → validL s.data.toList = v) := fun _ h => h
    obtain ⟨vs, hvs⟩ : ∃ vs, validL s.data.toList = vs := ⟨_, rfl⟩
    have HV1 := Lib.hid hvs
    rw [hvs] at CV HVA
    clear hvs HVS
    generalize validL t.data.toList = vt at *
    gi_wp2_with (refine ⟨trivial, ?_⟩; gi_at_call 12; refine (callsIn_wide.2 (CV.out w1 E1.out.below)).mono ?_; rintro e w2 ⟨rfl, hb2⟩; have E2 := Lib.hid (E1.out.later hb2); have c0' := E2.out.c0.cell; clear hb2)
    clear c0 c2 f2 E1 CV
    gi_wp2_with (refine ⟨trivial, ?_⟩; gi_at_call 12; refine (callsIn_wide.2 (CU.out w2 E2.out.below)).mono ?_; rintro e w3 ⟨rfl, hb3⟩; have E3 := Lib.hid (E2.out.later hb3); have c0 := E3.out.c0.cell; clear hb3)
    clear c0' E2 CU
    gi_upto_region 7 with (refine ⟨trivial, ?_⟩; gi_at_call 12; refine (callsIn_wide.2 (CB.out w3 E3.out.below)).mono ?_; rintro e w4 ⟨rfl, hb4⟩; have E4 := Lib.hid (E3.out.later hb4); have c04 := E4.out.c0.cell; clear hb4)
    clear c0 E3 CB
    gi_cut [43] from 36 (fun v wx => v = .bool false ∧ wx = w4)
    case first =>
      cases vs with
      | false =>
        gi_wp2_with fail
        gi_meet
        exact ⟨rfl, rfl⟩
      | true =>
        obtain rfl := HVA.out rfl
        cases va
        all_goals
          gi_wp2_with fail
          gi_meet
          exact ⟨rfl, rfl⟩
    case rest =>
      obtain ⟨rfl, rfl⟩ := hcut
      clear HVA
      have c02 := (((E4.out.c0.alloc (.cells #[.string ⟨#[]⟩] 9)).alloc (.cells #[.int .i64 0] 3)).alloc (.cells #[.int .i64 0] 3)).cell
      gi_wp2_with (refine ⟨trivial, ?_⟩; gi_at_call 14; refine (callsIn_wide.2 (runes_any _ _)).mono ?_; rintro e w' ⟨rfl, rfl⟩)
      obtain ⟨w0, hw0⟩ : ∃ w0, (((wc.alloc (.cells #[.string ⟨#[]⟩] 9)).alloc (.cells #[.int .i64 0] 3)).alloc (.cells #[.int .i64 0] 3)).alloc (.cells #[.string s] 9) = w0 := ⟨_, rfl⟩
      have hs0 : w0.heap.size = wc.heap.size + 4 := by rw [← hw0]; simp
      have hbc : Below wc.heap.size wc w0 := by rw [← hw0]; exact ((((Below.refl _ wc).alloc (Nat.le_refl _) _).alloc (by simp) _).alloc (by simp; omega) _).alloc (by simp; omega) _
      have bo : Boxed w0 wc.heap.size 9 (.string ⟨#[]⟩) := by rw [← hw0]; exact (((Boxed.new wc _ _).alloc _).alloc _).alloc _
      have bn : Boxed w0 (wc.heap.size + 1) 3 (.int .i64 0) := by
        rw [← hw0]
        have := Boxed.new (wc.alloc (.cells #[.string ⟨#[]⟩] 9)) 3 (.int .i64 0)
        rw [World.size_alloc] at this
        exact (this.alloc _).alloc _
      have bb : Boxed w0 (wc.heap.size + 1 + 1) 3 (.int .i64 0) := by
        rw [← hw0]
        have := Boxed.new ((wc.alloc (.cells #[.string ⟨#[]⟩] 9)).alloc (.cells #[.int .i64 0] 3)) 3 (.int .i64 0)
        rw [World.size_alloc, World.size_alloc] at this
        exact this.alloc _
      have bt : Boxed w0 (wc.heap.size + 1 + 1 + 1) 9 (.string s) := by
        rw [← hw0]
        have := Boxed.new (((wc.alloc (.cells #[.string ⟨#[]⟩] 9)).alloc (.cells #[.int .i64 0] 3)).alloc (.cells #[.int .i64 0] 3)) 9 (.string s)
        rw [World.size_alloc, World.size_alloc, World.size_alloc] at this
        exact this
      have E5 := E4.out.later hbc
      have hlt : w.heap.size + 1 < wc.heap.size := E4.out.c2.lt
      have HPd : Hid (PdI s w wc.heap.size [] w0) := ⟨bo, bn, bb, bt, E5.c0, E5.c2, E5.below⟩
      rw [hw0]
      clear hw0 c02 c04 bo bn bb bt E5 hbc
      obtain ⟨Bo, hBo⟩ : ∃ Bo, wc.heap.size = Bo := ⟨_, rfl⟩
      rw [hBo] at hlt HPd hs0 ⊢
      clear hBo E4
      have hsz : s.size ≤ 100000 := by omega
      have HS := Lib.hid hsz
      clear hsz
      refine wpIn_rangeFunc_ownG rfl (by decide) (gf := 27) (lb := #[.pointer (some ⟨Bo + 1 + 1 + 1, 0, none⟩)]) rfl trivial (enters_of Tryd.func27 (by kernel_rfl) rfl)
        (runes_stops (5 - 1) (by decide) (Bo + 1 + 1 + 1) s HS.out w w0 HT.out HPd.out.below HPd.out.ct.cell) kpu_t (kpu_b HPd.out.below.size) (Below.refl _ _) (fun _ => rfl)
        (PdI s w Bo) (PdX s) (pdI_own s w w0 _ HPd.out.below.size) (pdX_own s _) HPd.out
        (fun x => { tmps := #[.string s, .string t, .pointer (some ⟨w.heap.size, 0, none⟩), undef, .pointer (some ⟨w.heap.size + 1, 0, none⟩), .bool true, .bool vs, .bool vt, .bool va, .pointer (some ⟨Bo, 0, none⟩), .pointer (some ⟨Bo + 1, 0, none⟩), .pointer (some ⟨Bo + 1 + 1, 0, none⟩), .int .i64 ((x.1 : Nat) : Int), .int .i64 (rn s.data.toList x.1).1, .bool true, .bool true, .bool false, .bool false, .string s, .int .i64 (s.size : Int), .bool false, .bool false, .bool false, .string t, .int .i64 (t.size : Int), .bool false, .bool false, undef, .string s, .bool vs, .string t, .bool vt, .string s, .string t, .string (s ++ t), .bool va, u36, u37, u38, u39, u40, u41, u42, .bool false, .string s, .func (.func 27) #[] #[.pointer (some ⟨Bo + 1 + 1 + 1, 0, none⟩)], .int .i64 ((x.1 : Nat) : Int), .int .i64 (rn s.data.toList x.1).1, u48, u49, u50, u51, u52, u53, u54, u55, u56, u57, u58, u59, u60, u61, u62, u63, u64, u65, u66, u67, u68, u69, u70, u71, u72, u73, u74, u75, u76, u77, u78, u79], defers := [] }) ?assign ?body ?done ?stop
      case assign =>
        intro l x W2 K hK
        gi_wp2
        exact hK
      case body =>
        rintro l pre x W2 hpd hlen
        have hx := x.2
        have hdl := data_len s
        have HNo : Hid (chainL s.data.toList 0 (pre ++ [x]) → x.1 = (oL s pre).length) := fun h => by
          obtain ⟨h1, h2⟩ := (chain_snoc _ _ _ _).1 h
          have := o_end s 0 pre h1
          omega
        have HO2 := Lib.hid (o_snoc s pre x)
        have HBd := Lib.hid (bad_snoc s pre x)
        have hol := o_le s pre
        have hbl := bad_le s pre
        obtain ⟨y, hy⟩ : ∃ y, x.1 = y := ⟨_, rfl⟩
        have HP := Lib.hid hpd
        unfold PdI at hpd
        rw [hy] at HNo HO2 HBd hx ⊢
        have HI : Hid (∀ o' W, utxt (oL s (pre ++ [x])) = o' → Pd s w Bo o' (o'.size : Int) ((badL s (pre ++ [x]) : Nat) : Int) W → PdI s w Bo (pre ++ [x]) W) := fun o' W h1 h2 => by
          have h3 : o'.size = (oL s (pre ++ [x])).length := by rw [← h1, utxt_size]
          unfold PdI
          rw [h1, ← h3]
          exact h2
        rw [HO2.out, HBd.out] at HI
        clear hy HO2 HBd
        obtain ⟨D, hD⟩ : ∃ D, oL s pre = D := ⟨_, rfl⟩
        obtain ⟨B, hB⟩ : ∃ B, badL s pre = B := ⟨_, rfl⟩
        rw [hD] at HNo HI hol hpd
        rw [hB] at HI hbl hpd
        clear hD hB HP
        obtain ⟨N, hN⟩ : ∃ N, D.length = N := ⟨_, rfl⟩
        obtain ⟨o, ho⟩ : ∃ o, utxt D = o := ⟨_, rfl⟩
        have hoz : o.size = N := by rw [← ho, utxt_size, hN]
        have HOA : Hid (∀ E, utxt (D ++ E) = o ++ utxt E) := fun E => by rw [← utxt_app, ho]
        have HOO := Lib.hid ho
        rw [ho, hN] at hpd
        rw [hN] at HNo hol
        have HPd2 := Lib.hid hpd
        have hB0 := hpd.below.size
        have co := hpd.co.cell
        have cn := hpd.cn.cell
        have cb := hpd.cb.cell
        have fb := hpd.cb.frozen
        have c0 := hpd.c0.cell
        have c2 := hpd.c2.cell
        have f2 := hpd.c2.frozen
        clear hpd hN ho
        have hBz : B ≤ 500 := by omega
        have hNz : N ≤ 2000 := by omega
        by_cases hA : y ≠ N ∧ B = 0
        · obtain ⟨hA1, rfl⟩ := hA
          have hq : ((y : Int) != (N : Int)) = true := bne_iff_ne.2 (by omega)
          gi_wp2
          exact ⟨(KeepsOthers.setCell W2 _ _).from _, rfl, fun hc => hA1 (HNo.out hc)⟩
        · gi_upto_region 15 with fail
          dsimp only
          gi_cut [54] from 48 (fun v wx => v = .bool false ∧ wx = W2)
          case first =>
            by_cases hyN : y = N
            · have hq : ((y : Int) != (N : Int)) = false := by rw [hyN]; simp
              clear hyN hA
              gi_wp2_with fail
              gi_meet
              exact ⟨rfl, rfl⟩
            · have hq : ((y : Int) != (N : Int)) = true := bne_iff_ne.2 (by omega)
              have hq2 : ((B : Int) == 0) = false := beq_eq_false_iff_ne.2 (by omega)
              clear hyN hA
              gi_wp2_with fail
              gi_meet
              exact ⟨rfl, rfl⟩
          case rest =>
            obtain ⟨rfl, rfl⟩ := hcut
            clear hA HNo
            have g0 : (0 : Int) ≤ (y : Int) := by omega
            have g1 : (y : Int) < (s.size : Int) := by omega
            by_cases hneg : (rn s.data.toList y).1 < 0
            · have HQ : Hid (opL s.data.toList y = [s[y]]) := op_neg hx hneg
              have HX : Hid (s.extract y (y + 1) = utxt [s[y]]) := by
                show _ = _
                apply ByteArray.ext
                rw [ByteArray.data_extract]
                unfold utxt
                apply Array.ext'
                rw [Array.toList_extract]
                simp only [List.extract_eq_take_drop, Nat.add_sub_cancel_left]
                rw [List.drop_eq_getElem_cons (by omega)]
                simp only [List.take_succ_cons, List.take_zero, List.cons.injEq, and_true]
                have := byte_at s y hx
                rw [List.getD_eq_getElem?_getD, List.getElem?_eq_getElem (by omega)] at this
                exact this.symm
              rw [HQ.out, if_pos hneg] at HI
              have HOA2 := Lib.hid (HOA.out [s[y]])
              rw [← HX.out] at HOA2
              have hXz : (s.extract y (y + 1)).size = 1 := by rw [HX.out, utxt_size]; rfl
              rw [HOA2.out] at HI
              clear HQ HX HOA HOA2
              obtain ⟨X, hX⟩ : ∃ X, s.extract y (y + 1) = X := ⟨_, rfl⟩
              rw [hX] at HI hXz
              have hc1 : ¬ 9223372036854775807 < o.size + X.size := by omega
              obtain ⟨o', ho'⟩ : ∃ o', o ++ X = o' := ⟨_, rfl⟩
              have hX2 := hX
              have ho2 := ho'
              have hoz' : o'.size = N + 1 := by rw [← ho', ByteArray.size_append, hoz, hXz]
              rw [ho'] at HI
              have HI2 := Lib.hid (fun W => HI.out o' W rfl)
              clear HI
              have P1 := Lib.hid (HPd2.out.setB ((B : Int) + 1) hlt)
              have co1 := P1.out.co.cell
              have fo1 := P1.out.co.frozen
              have c01 := P1.out.c0.cell
              have hc2 : o.size + X.size ≤ 100000 := by omega
              clear hoz hXz hoz' hX ho'
              have hmx : Tryd.prog.follows .mixedOrders = true := by kernel_rfl
              have g2 : (y : Int) + 1 ≤ (s.size : Int) := by omega
              have g3 : (0 : Int) ≤ (y : Int) + 1 := by omega
              have g4 : (y : Int) ≤ (y : Int) + 1 := by omega
              have g5 : (y : Int) ≤ (s.size : Int) := by omega
              have g6 : IntKind.i64.wrap ((y : Int) + 1) = (y : Int) + 1 := IntWalk.i64_in _ (by omega)
              have g7 : ((y : Int) + 1).toNat = y + 1 := by omega
              have HX2 := Lib.hid hX2
              have HO3 := Lib.hid ho2
              have HC1 := Lib.hid hc2
              clear hX2 ho2 hc2
              gi_upto_region 19 with fail
              refine wpIn_mono (cat_region (B1 := w.heap.size) (B2 := Bo) (p := y) (s := s) (o := o) (o' := o') (X := X) hmx (by kernel_rfl) (by kernel_rfl) (by kernel_rfl) (by kernel_rfl) (by kernel_rfl) (by kernel_rfl) (by kernel_rfl) (by kernel_rfl) (by kernel_rfl) (by kernel_rfl) (by kernel_rfl)
                rfl rfl rfl rfl rfl hx (by omega) HX2.out HO3.out HC1.out c01 co1 fo1) ?q19
              case q19 =>
                rintro e a' w5 ⟨rfl, rfl, rfl⟩
                have P2d := Lib.hid (P1.out.setO o' hlt)
                have co2 := P2d.out.co.cell
                have cn2 := P2d.out.cn.cell
                have fn2 := P2d.out.cn.frozen
                have P3 := Lib.hid (P2d.out.setN (o'.size : Int) hlt)
                simp only [catT, List.setIfInBounds_toArray, List.set_cons_succ, List.set_cons_zero]
                gi_wp2
                refine ⟨((((KeepsOthers.setCell wc _ _).trans (KeepsOthers.setCell _ _ _)).trans (KeepsOthers.setCell _ _ _)).trans (KeepsOthers.drew _)).from _, ⟨((((Below.refl _ wc).setCell (p := ⟨Bo + 1 + 1, 0, none⟩) (by show w.heap.size ≤ Bo + 1 + 1; omega) _).setCell (p := ⟨Bo, 0, none⟩) (by show w.heap.size ≤ Bo; omega) _).setCell (p := ⟨Bo + 1, 0, none⟩) (by show w.heap.size ≤ Bo + 1; omega) _).drew, fun _ => P3.out.ct.cell⟩, HI2.out _ P3.out.drew⟩
            · obtain ⟨k, hk1, hk2, hk3⟩ := op_pos hneg
              have HQ : Hid (opL s.data.toList y = byts k) := hk3
              have hkr : k ≤ 1114111 := by unfold isRn at hk2; exact (of_decide_eq_true hk2).1
              rw [HQ.out, if_neg hneg, Nat.add_zero] at HI
              have CA : Hid (∀ W, Calls Tryd.prog 19 #[.string o, .int .i64 (k : Int)] W fun e w' => e = .returned (.string (o ++ utxt (byts k))) ∧ Below W.heap.size W w') := fun W => by
                have h1 := pappend_any o (k : Int) W (by omega) (by omega)
                have h2 : utxt (appL o.data.toList (k : Int)) = o ++ utxt (byts k) := by
                  unfold appL
                  rw [if_pos (by rw [isI_nat]; exact hk2), ← utxt_app, utxt_of]
                  rfl
                rw [h2] at h1
                exact h1
              have hb4 : (utxt (byts k)).size ≤ 4 := by rw [utxt_size, byts_len]; split; omega; split; omega; split <;> omega
              rw [HOA.out (byts k)] at HI
              rw [hk1]
              have hkn : ¬ (k : Int) < 0 := by omega
              clear HOA HQ hk1 hk2 hk3 hneg
              obtain ⟨o', ho'⟩ : ∃ o', o ++ utxt (byts k) = o' := ⟨_, rfl⟩
              have hoz' : o'.size ≤ 2100 := by rw [← ho', ByteArray.size_append, hoz]; omega
              rw [ho'] at HI CA
              clear ho' hb4
              have HI2 := Lib.hid (fun W => HI.out o' W rfl)
              clear HI
              gi_wp2_with (refine ⟨trivial, ?_⟩; gi_at_call 19; refine (CallsIn.inRound l (callsIn_wide.2 (CA.out _))).mono ?_; rintro e w4 ⟨rfl, hb4⟩; have HB4 := Lib.hid hb4; have P1 := Lib.hid (HPd2.out.later hb4); have co1 := P1.out.co.cell; have fo1 := P1.out.co.frozen; have P2 := Lib.hid (P1.out.setO o' hlt); have P3 := Lib.hid (P2.out.setN (o'.size : Int) hlt); have co2 := P2.out.co.cell; have cn2 := P2.out.cn.cell; have fn2 := P2.out.cn.frozen; clear hb4)
              refine ⟨(((keeps_below HB4.out).trans (KeepsOthers.setCell _ _ _)).trans (KeepsOthers.setCell _ _ _)).from _, ⟨((HB4.out.mono hB0).setCell (p := ⟨Bo, 0, none⟩) (by show w.heap.size ≤ Bo; omega) _).setCell (p := ⟨Bo + 1, 0, none⟩) (by show w.heap.size ≤ Bo + 1; omega) _, fun _ => P3.out.ct.cell⟩, HI2.out _ P3.out⟩
      case done =>
        rintro D ys W hD ⟨hch, hend⟩ hpd hK
        obtain ⟨ho1, ho2⟩ := o_all s hch hend
        have hvs : vs = decide (badL s ys = 0) := HV1.out.symm.trans ho2
        unfold PdI at hpd
        rw [ho1, utxt_of] at hpd
        obtain ⟨B, hB⟩ : ∃ B, badL s ys = B := ⟨_, rfl⟩
        rw [hB] at hpd hvs
        clear hB ho1 ho2 hch hend
        have co := hpd.co.cell
        have c0 := hpd.c0.cell
        have cb := hpd.cb.cell
        have c2 := hpd.c2.cell
        have f2 := hpd.c2.frozen
        have HR := Lib.hid hpd
        clear hpd
        have hss : (s.toList == s.toList) = true := by simp
        by_cases hb0 : B = 0
        · subst hb0
          obtain rfl : vs = true := by rw [hvs]; rfl
          clear hvs
          gi_wp2
          have hK' := (KeepsOthers.setCell W ⟨w.heap.size + 1, 0, none⟩ (.bool true)).same D _ hK rfl
          refine ⟨by simp, .inl ⟨_, _, rfl, run_takeDeferred hK', ?_⟩⟩
          have hc5 := cell_kept (HR.out.c2.set (.bool true)).cell (grownBy_putObj' _ D (.deferred none)) (fun r e => by cases e; exact ⟨_, hK', rfl⟩)
          refine ⟨.bool true, ?_, rfl, (HR.out.below.setCell (p := ⟨w.heap.size + 1, 0, none⟩) (by show w.heap.size ≤ w.heap.size + 1; omega) _).trans (belowK_b (w := w) (Nat.le_refl _) _ D _ _ (by have := HPd.out.below.size; omega) hK' rfl rfl)⟩
          simp [results, Tryd.f7, go_sem, hc5]
        · obtain rfl : vs = false := by rw [hvs]; exact decide_eq_false hb0
          have hbz : ((B : Int) == 0) = false := beq_eq_false_iff_ne.2 (by omega)
          clear hvs hb0
          gi_wp2
          have hK' := (KeepsOthers.setCell W ⟨w.heap.size + 1, 0, none⟩ (.bool true)).same D _ hK rfl
          refine ⟨by simp, .inl ⟨_, _, rfl, run_takeDeferred hK', ?_⟩⟩
          have hc5 := cell_kept (HR.out.c2.set (.bool true)).cell (grownBy_putObj' _ D (.deferred none)) (fun r e => by cases e; exact ⟨_, hK', rfl⟩)
          refine ⟨.bool true, ?_, rfl, (HR.out.below.setCell (p := ⟨w.heap.size + 1, 0, none⟩) (by show w.heap.size ≤ w.heap.size + 1; omega) _).trans (belowK_b (w := w) (Nat.le_refl _) _ D _ _ (by have := HPd.out.below.size; omega) hK' rfl rfl)⟩
          simp [results, Tryd.f7, go_sem, hc5]
      case stop =>
        rintro D c pre W hD hch ⟨rfl, hno⟩ hK
        exact absurd hch hno
  · have hr1 : (w1.setCell ⟨w.heap.size + 1, 0, none⟩ (.bool true)).cell? ⟨w.heap.size + 1, 0, none⟩ = some (.bool true) := (E1.out.c2.set (.bool true)).cell
    have hbb := Lib.hid (E1.out.below.setCell (p := ⟨w.heap.size + 1, 0, none⟩) (by show w.heap.size ≤ w.heap.size + 1; omega) (.bool true))
    have HR1 := Lib.hid hr1
    clear hr1
    by_cases h2 : s.size ≤ 500
    · have h1z : ¬ (500 : Int) < (s.size : Int) := by omega
      have h2z : (500 : Int) < (t.size : Int) := by omega
      gi_wp2
      refine ⟨.bool true, ?_, rfl, hbb.out⟩
      simp [results, Tryd.f7, go_sem, HR1.out]
    · have h1z : (500 : Int) < (s.size : Int) := by omega
      gi_wp2
      refine ⟨.bool true, ?_, rfl, hbb.out⟩
      simp [results, Tryd.f7, go_sem, HR1.out]
end Go.Proofs.YtbmpnakhaeaneaaDoor
