/- UtfReads: the walk. -/
import Derived.Test.YtbmpnakhaeaneaaDoorUShown
import Derived.Sort.CutIn
namespace Go.Proofs.YtbmpnakhaeaneaaDoor
open Go.RowKit Go.Shelf
attribute [local go_sem] Oper.semAt_some

theorem boxed_kept {A B : World} {row : Option Nat} {k : Nat} {t : TypeId} {v : Value} (h : Boxed A k t v) (hg : A.grownBy B row) {B0 : Nat} (hr : ∀ r, row = some r → B0 ≤ r ∧ ∃ o : Obj, A.heap[r]? = some o ∧ o.isCells = false) : Boxed B k t v :=
  boxed_own (β := Unit) k t (fun _ => v) () A B row h hg (fun r e => (hr r e).2)
theorem boxed_later {A B : World} {k : Nat} {t : TypeId} {v : Value} (h : Boxed A k t v) (hb : Below A.heap.size A B) : Boxed B k t v := (hb.block _ h.lt).trans h
theorem chain_end_le (L : List UInt8) {n : Nat} (hn : n = L.length) : ∀ (p : Nat) (T : List (Fin n)), p ≤ L.length → chainL L p T → endL L p T ≤ L.length
  | _, [], h, _ => h
  | p, x :: T, _, h => by
    have h2 := rn_step (L := L) (p := x.1) (by have := x.2; omega)
    have := h.1
    exact chain_end_le L hn _ T (by omega) h.2

/-- What UtfReads' cells hold between two rounds. -/
structure Rd (s : ByteArray) (stop : Int) (w : World) (Ba Bm Bs : Nat) (p m : Int) (W : World) : Prop where
  ca : Boxed W Ba 3 (.int .i64 p)
  cm : Boxed W Bm 3 (.int .i64 m)
  ct : Boxed W Bs 9 (.string s)
  c0 : Boxed W w.heap.size 9 (.string s)
  c1 : Boxed W (w.heap.size + 1) 3 (.int .i64 stop)
  c2 : Boxed W (w.heap.size + 1 + 1) 4 (.bool false)
  below : Below w.heap.size w W
theorem Rd.kept {s : ByteArray} {stop p m : Int} {w A B : World} {Ba Bm Bs B0 : Nat} (h : Rd s stop w Ba Bm Bs p m A) {row : Option Nat} (hg : A.grownBy B row) (hB0 : w.heap.size ≤ B0) (hr : ∀ r, row = some r → B0 ≤ r ∧ ∃ o : Obj, A.heap[r]? = some o ∧ o.isCells = false) : Rd s stop w Ba Bm Bs p m B :=
  ⟨boxed_kept h.ca hg hr, boxed_kept h.cm hg hr, boxed_kept h.ct hg hr, boxed_kept h.c0 hg hr, boxed_kept h.c1 hg hr, boxed_kept h.c2 hg hr, h.below.grown hg h.below.size (fun k e => by have := (hr k e).1; omega)⟩
theorem Rd.later {s : ByteArray} {stop p m : Int} {w A B : World} {Ba Bm Bs : Nat} (h : Rd s stop w Ba Bm Bs p m A) (hb : Below A.heap.size A B) : Rd s stop w Ba Bm Bs p m B :=
  ⟨boxed_later h.ca hb, boxed_later h.cm hb, boxed_later h.ct hb, boxed_later h.c0 hb, boxed_later h.c1 hb, boxed_later h.c2 hb, h.below.trans (hb.mono h.below.size)⟩
theorem Rd.step {s : ByteArray} {stop p m p' m' : Int} {w A : World} {Ba Bm Bs : Nat} (h : Rd s stop w Ba Bm Bs p m A) (h1 : w.heap.size + 2 < Ba) (h2 : Ba < Bm) (h3 : Bm < Bs) : Rd s stop w Ba Bm Bs p' m' ((A.setCell ⟨Ba, 0, none⟩ (.int .i64 p')).setCell ⟨Bm, 0, none⟩ (.int .i64 m')) := by
  have o : ∀ {k : Nat} {t : TypeId} {v : Value}, k ≠ Ba → k ≠ Bm → Boxed A k t v → Boxed ((A.setCell ⟨Ba, 0, none⟩ (.int .i64 p')).setCell ⟨Bm, 0, none⟩ (.int .i64 m')) k t v := fun a b hb => (hb.other a _).other b _
  exact ⟨(h.ca.set _).other (by omega) _, (h.cm.other (by omega) _).set _, o (by omega) (by omega) h.ct, o (by omega) (by omega) h.c0, o (by omega) (by omega) h.c1, o (by omega) (by omega) h.c2, (h.below.setCell (p := ⟨Ba, 0, none⟩) (by show w.heap.size ≤ Ba; omega) _).setCell (p := ⟨Bm, 0, none⟩) (by show w.heap.size ≤ Bm; omega) _⟩
def RdI (s : ByteArray) (stop : Int) (w : World) (Ba Bm Bs : Nat) (pre : List (Fin s.size)) (W : World) : Prop :=
  chainL s.data.toList 0 pre ∧ Rd s stop w Ba Bm Bs ((endL s.data.toList 0 pre : Nat) : Int) ((pre.length : Nat) : Int) W
/-- A round has left: the answer stands in its cell, and it is 'no' only if the places were not told in order. -/
def RdX (s : ByteArray) (w : World) (c : Code) (pre : List (Fin s.size)) (W : World) : Prop :=
  c = .ret ∧ (∃ b, Boxed W (w.heap.size + 1 + 1) 4 (.bool b) ∧ (b = false → ¬ chainL s.data.toList 0 pre)) ∧ Below w.heap.size w W
theorem rdI_own (s : ByteArray) (stop : Int) (w w0 : World) (Ba Bm Bs : Nat) (h : w.heap.size ≤ w0.heap.size) : OwnFrom w0.heap.size (RdI s stop w Ba Bm Bs) :=
  fun _ _ _ _ hs hg hr => ⟨hs.1, hs.2.kept hg h hr⟩
theorem rdX_own (s : ByteArray) (w w0 : World) (h : w.heap.size ≤ w0.heap.size) (c : Code) : OwnFrom w0.heap.size (RdX s w c) := by
  rintro pre A B row ⟨h1, ⟨b, h2, h3⟩, h4⟩ hg hr
  exact ⟨h1, ⟨b, boxed_kept h2 hg hr, h3⟩, h4.grown hg h4.size (fun k e => by have := (hr k e).1; omega)⟩

/-- A piece of code that always goes on: what follows, and nothing else. -/
def goesOn (K : Act → World → Prop) : Exit → Act → World → Prop
  | .normal, a, w => K a w
  | _, _, _ => False
theorem goesOn_normal {K : Act → World → Prop} {a : Act} {w : World} (h : K a w) : goesOn K .normal a w := h
theorem wpIn_goesOn {F : Fence} {n : Nat} {P : Program} {c : Code} {K : Act → World → Prop} {Q : Exit → Act → World → Prop} {a : Act} {w : World} (h : c.wpIn F n P (goesOn K) a w) : c.wpIn F n P (Exit.then K Q) a w :=
  wpIn_mono h fun e a w hk => by cases e <;> first | exact hk | exact hk.elim
/-- The arguments' boxes and the answer's. -/
structure Re (s : ByteArray) (stop : Int) (w W : World) : Prop where
  c0 : Boxed W w.heap.size 9 (.string s)
  c1 : Boxed W (w.heap.size + 1) 3 (.int .i64 stop)
  c2 : Boxed W (w.heap.size + 1 + 1) 4 (.bool false)
  below : Below w.heap.size w W
theorem Re.later {s : ByteArray} {stop : Int} {w A B : World} (h : Re s stop w A) (hb : Below A.heap.size A B) : Re s stop w B := ⟨boxed_later h.c0 hb, boxed_later h.c1 hb, boxed_later h.c2 hb, h.below.trans (hb.mono h.below.size)⟩

set_option maxRecDepth 100000 in
set_option maxHeartbeats 4000000 in
theorem reads_walk (s : ByteArray) (stop : Int) (w : World) (hT : Tabs w) (hs : s.size ≤ maxLen) (hst : -9223372036854775808 ≤ stop ∧ stop ≤ 9223372036854775807) : Calls Tryd.prog 3 #[.string s, .int .i64 stop] w fun e w' => e = .returned (.bool true) ∧ Below w.heap.size w w' := by
  have HT := Lib.hid hT; clear hT
  unfold maxLen at hs
  have hbw : Below w.heap.size w (((w.alloc (.cells #[.string s] 9)).alloc (.cells #[.int .i64 stop] 3)).alloc (.cells #[.bool false] 4)) := (((Below.refl _ w).alloc (Nat.le_refl _) _).alloc (by simp) _).alloc (by simp; omega) _
  have CS : Hid (∀ W, Below w.heap.size w W → Calls Tryd.prog 9 #[] W fun e w' => e = .returned (.bool true) ∧ Below W.heap.size W w') := fun W hb => shown10_any W (HT.out.below hb)
  refine (callsIn_wide (n := 5)).1 ?_
  refine callsIn_of_wp_marks Tryd.func3 rfl trivial ?_ rfl
  simp only [Tryd.ntmps3, List.size_toArray, List.length_cons, List.length_nil, Nat.reduceAdd, Nat.reduceSub, Array.replicate_succ, Array.replicate_zero, List.push_toArray, List.append_toArray, List.nil_append, List.cons_append]
  gi_wp2_with fail
  obtain ⟨W0, hW0⟩ : ∃ W0, ((w.alloc (.cells #[.string s] 9)).alloc (.cells #[.int .i64 stop] 3)).alloc (.cells #[.bool false] 4) = W0 := ⟨_, rfl⟩
  have k0 : Boxed W0 w.heap.size 9 (.string s) := by rw [← hW0]; exact ((Boxed.new w _ _).alloc _).alloc _
  have k1 : Boxed W0 (w.heap.size + 1) 3 (.int .i64 stop) := by
    rw [← hW0]
    have := Boxed.new (w.alloc (.cells #[.string s] 9)) 3 (.int .i64 stop)
    rw [World.size_alloc] at this
    exact this.alloc _
  have k2 : Boxed W0 (w.heap.size + 1 + 1) 4 (.bool false) := by
    rw [← hW0]
    have := Boxed.new ((w.alloc (.cells #[.string s] 9)).alloc (.cells #[.int .i64 stop] 3)) 4 (.bool false)
    rw [World.size_alloc, World.size_alloc] at this
    exact this
  rw [hW0] at hbw ⊢
  clear hW0
  have E0 : Hid (Re s stop w W0) := ⟨k0, k1, k2, hbw⟩
  clear hbw k0 k1 k2
  refine ⟨trivial, ?_⟩
  refine (callsIn_wide.2 (CS.out W0 E0.out.below)).mono ?_
  rintro e w1 ⟨rfl, hb1⟩
  have E1 := Lib.hid (E0.out.later hb1)
  have c0 := E1.out.c0.cell
  have c2 := E1.out.c2.cell
  have f2 := E1.out.c2.frozen
  clear hb1 E0 CS
  by_cases h1 : s.size ≤ 1000
  · have h1z : ¬ (1000 : Int) < (s.size : Int) := by omega
    have CR : Hid (∀ W, Below w.heap.size w W → Calls Tryd.prog 10 #[.string s] W fun e w' => e = .returned (.tuple #[.int .i64 (runeL s.data.toList).1, .int .i64 ((runeL s.data.toList).2 : Nat)]) ∧ Below W.heap.size W w') := fun W hb => prune_any s W (HT.out.below hb) (by omega)
    have CX : Hid (∀ W, Calls Tryd.prog 11 #[.string s] W fun e w' => e = .returned (.tuple #[.int .i64 (runeL s.data.toList).1, .int .i64 ((runeL s.data.toList).2 : Nat)]) ∧ Below W.heap.size W w') := fun W => xrune_any s W (by omega)
    have CV : Hid (∀ W, Below w.heap.size w W → Calls Tryd.prog 12 #[.string s] W fun e w' => e = .returned (.bool (validL s.data.toList)) ∧ Below W.heap.size W w') := fun W hb => pvalid_any s W (HT.out.below hb) (by omega)
    have CY : Hid (∀ W, Calls Tryd.prog 13 #[.string s] W fun e w' => e = .returned (.bool (validL s.data.toList)) ∧ Below W.heap.size W w') := fun W => xvalid_any s W (by omega)
    generalize runeL s.data.toList = R0 at *
    obtain ⟨r0, n0⟩ := R0
    dsimp only at *
    generalize validL s.data.toList = vv at *
    gi_wp2_with (refine ⟨trivial, ?_⟩; gi_at_call 10; refine (callsIn_wide.2 (CR.out w1 E1.out.below)).mono ?_; rintro e w2 ⟨rfl, hb2⟩; have E2 := Lib.hid (E1.out.later hb2); have c0' := E2.out.c0.cell; clear hb2)
    clear c0 c2 f2 E1 CR
    gi_wp2_with (refine ⟨trivial, ?_⟩; gi_at_call 11; refine (callsIn_wide.2 (CX.out w2)).mono ?_; rintro e w3 ⟨rfl, hb3⟩; have E3 := Lib.hid (E2.out.later hb3); have c0 := E3.out.c0.cell; have c2 := E3.out.c2.cell; have f2 := E3.out.c2.frozen; clear hb3)
    clear c0' E2 CX
    have hmx : Tryd.prog.follows .mixedOrders = true := by kernel_rfl
    have q1 : (r0 != r0) = false := by simp
    have q2 : ((n0 : Int) != (n0 : Int)) = false := by simp
    have q3 : (vv != vv) = false := by simp
    have HBd : Hid (Below w.heap.size w w3.drew) := E3.out.below.drew
    gi_cut [49] from 35 (fun v wx => v = .bool false ∧ Re s stop w wx)
    case first =>
      rename_i J K' hRJ hMK
      refine wpIn_goesOn ?_
      gi_region_with_o (first
        | (refine ⟨trivial, ?_⟩; gi_at_call 12; refine (callsIn_wide.2 (CV.out w3.drew HBd.out)).mono ?_; rintro e w4 ⟨rfl, hb4⟩; have E4 := Lib.hid (E3.out.later ((Below.refl _ w3).drew.trans hb4)); have c4 := E4.out.c0.cell; clear hb4)
        | (refine ⟨trivial, ?_⟩; gi_at_call 13; refine (callsIn_wide.2 (CY.out _)).mono ?_; rintro e w5 ⟨rfl, hb5⟩; have E5 := Lib.hid (E4.out.later hb5); clear hb5))
      all_goals
        refine goesOn_normal (hMK _ _ (Met.intro (hRJ _ _ ?_)))
        (repeat apply Exists.intro)
        exact ⟨⟨rfl, E5.out⟩, rfl⟩
    case rest =>
      obtain ⟨rfl, hE⟩ := hcut
      have E4 := Lib.hid hE
      clear hE c0 c2 f2 E3 HBd
      have c0 := E4.out.c0.cell
      have c02 := ((E4.out.c0.alloc (.cells #[.int .i64 0] 3)).alloc (.cells #[.int .i64 0] 3)).cell
      gi_wp2_with (refine ⟨trivial, ?_⟩; gi_at_call 14; refine (callsIn_wide.2 (runes_any _ _)).mono ?_; rintro e w' ⟨rfl, rfl⟩)
      obtain ⟨w0, hw0⟩ : ∃ w0, ((wc.alloc (.cells #[.int .i64 0] 3)).alloc (.cells #[.int .i64 0] 3)).alloc (.cells #[.string s] 9) = w0 := ⟨_, rfl⟩
      have hs0 : w0.heap.size = wc.heap.size + 3 := by rw [← hw0]; simp
      have hbc : Below wc.heap.size wc w0 := by rw [← hw0]; exact (((Below.refl _ wc).alloc (Nat.le_refl _) _).alloc (by simp) _).alloc (by simp; omega) _
      have ba : Boxed w0 wc.heap.size 3 (.int .i64 0) := by rw [← hw0]; exact ((Boxed.new wc _ _).alloc _).alloc _
      have bm : Boxed w0 (wc.heap.size + 1) 3 (.int .i64 0) := by
        rw [← hw0]
        have := Boxed.new (wc.alloc (.cells #[.int .i64 0] 3)) 3 (.int .i64 0)
        rw [World.size_alloc] at this
        exact this.alloc _
      have bt : Boxed w0 (wc.heap.size + 1 + 1) 9 (.string s) := by
        rw [← hw0]
        have := Boxed.new ((wc.alloc (.cells #[.int .i64 0] 3)).alloc (.cells #[.int .i64 0] 3)) 9 (.string s)
        rw [World.size_alloc, World.size_alloc] at this
        exact this
      have E5 := E4.out.later hbc
      have hlt : w.heap.size + 1 + 1 < wc.heap.size := E4.out.c2.lt
      have HRd : Hid (Rd s stop w wc.heap.size (wc.heap.size + 1) (wc.heap.size + 1 + 1) 0 0 w0) := ⟨ba, bm, bt, E5.c0, E5.c1, E5.c2, E5.below⟩
      rw [hw0]
      clear hw0 c0 c02 ba bm bt E5 hbc
      obtain ⟨Ba, hBa⟩ : ∃ Ba, wc.heap.size = Ba := ⟨_, rfl⟩
      rw [hBa] at hlt HRd hs0 ⊢
      clear hBa E4
      have hsz : s.size ≤ 100000 := by omega
      have HS := Lib.hid hsz
      clear hsz
      refine wpIn_rangeFunc_ownG rfl (by decide) (gf := 27) (lb := #[.pointer (some ⟨Ba + 1 + 1, 0, none⟩)]) rfl trivial (enters_of Tryd.func27 (by kernel_rfl) rfl)
        (runes_stops (5 - 1) (by decide) (Ba + 1 + 1) s HS.out w w0 HT.out HRd.out.below HRd.out.ct.cell) kpu_t (kpu_b HRd.out.below.size) (Below.refl _ _) (fun _ => rfl)
        (RdI s stop w Ba (Ba + 1) (Ba + 1 + 1)) (RdX s w) (rdI_own s stop w w0 _ _ _ HRd.out.below.size) (rdX_own s w w0 HRd.out.below.size) ⟨trivial, HRd.out⟩
        (fun x => { tmps := #[.string s, .int .i64 stop, .pointer (some ⟨w.heap.size, 0, none⟩), .pointer (some ⟨w.heap.size + 1, 0, none⟩), .pointer (some ⟨w.heap.size + 1 + 1, 0, none⟩), .bool true, .int .i64 r0, .int .i64 (n0 : Int), .int .i64 r0, .int .i64 (n0 : Int), .pointer (some ⟨Ba, 0, none⟩), .pointer (some ⟨Ba + 1, 0, none⟩), .int .i64 ((x.1 : Nat) : Int), .int .i64 (rn s.data.toList x.1).1, undef, undef, .bool true, .bool true, .bool false, .bool false, .string s, .int .i64 (s.size : Int), .bool false, .bool false, undef, .tuple #[.int .i64 r0, .int .i64 (n0 : Int)], .string s, .tuple #[.int .i64 r0, .int .i64 (n0 : Int)], .int .i64 r0, .int .i64 (n0 : Int), .tuple #[.int .i64 r0, .int .i64 (n0 : Int)], .string s, .tuple #[.int .i64 r0, .int .i64 (n0 : Int)], .int .i64 r0, .int .i64 (n0 : Int), u35, u36, u37, u38, u39, u40, u41, u42, u43, u44, u45, u46, u47, u48, .bool false, .string s, .func (.func 27) #[] #[.pointer (some ⟨Ba + 1 + 1, 0, none⟩)], .int .i64 ((x.1 : Nat) : Int), .int .i64 (rn s.data.toList x.1).1, u54, u55, u56, u57, u58, u59, u60, u61, u62, u63, u64, u65, u66, u67, u68, u69, u70, u71, u72, u73, u74, u75, u76, u77, u78, u79, u80], defers := [] }) ?assign ?body ?done ?stop
      case assign =>
        intro l x W2 K hK
        gi_wp2
        exact hK
      case body =>
        rintro l pre x W2 ⟨hch, hrd⟩ hlen
        have hx := x.2
        have hdl := data_len s
        have hpe : endL s.data.toList 0 pre ≤ s.size := by have := chain_end_le _ hdl.symm 0 pre (Nat.zero_le _) hch; omega
        have HCh : Hid (∀ p, endL s.data.toList 0 pre = p → (chainL s.data.toList 0 (pre ++ [x]) ↔ x.1 = p)) := fun p hp => by
          rw [chain_snoc, hp]; exact ⟨fun h => h.2, fun h => ⟨hch, h⟩⟩
        have HEn : Hid (∀ p, endL s.data.toList 0 pre = p → endL s.data.toList 0 (pre ++ [x]) = p + (rn s.data.toList x.1).2) := fun p hp => by rw [end_snoc, hp]
        have HSt := Lib.hid (rn_step (L := s.data.toList) (p := x.1) (by omega))
        have HPp := Lib.hid (utxt_drop s (endL s.data.toList 0 pre))
        have CX2 : Hid (∀ p, endL s.data.toList 0 pre = p → ∀ W, Calls Tryd.prog 11 #[.string (s.extract p s.size)] W fun e w' => e = .returned (.tuple #[.int .i64 (rn s.data.toList p).1, .int .i64 ((rn s.data.toList p).2 : Nat)]) ∧ Below W.heap.size W w') := fun p hp W => by
          subst hp
          have := xrune_any (s.extract (endL s.data.toList 0 pre) s.size) W (by rw [HPp.out, utxt_size, List.length_drop]; have := HS.out; omega)
          rw [HPp.out, utxt_data] at this
          rw [HPp.out]
          exact this
        clear HPp
        obtain ⟨p, hp⟩ : ∃ p, endL s.data.toList 0 pre = p := ⟨_, rfl⟩
        have HCh2 := Lib.hid (HCh.out p hp)
        have HEn2 := Lib.hid (HEn.out p hp)
        have CX3 := Lib.hid (CX2.out p hp)
        rw [hp] at hrd hpe
        clear HCh HEn CX2 hp
        have HR := Lib.hid hrd
        have HL : Hid (pre.length ≤ 1000) := by show _ ≤ _; omega
        obtain ⟨m, hm⟩ : ∃ m, pre.length = m := ⟨_, rfl⟩
        rw [hm] at HR HL hrd
        have HM := Lib.hid hm
        have hB0 := hrd.below.size
        have ca := hrd.ca.cell
        have cm := hrd.cm.cell
        have c0 := hrd.c0.cell
        have c1 := hrd.c1.cell
        have c2 := hrd.c2.cell
        have f2 := hrd.c2.frozen
        have hmL := HL.out
        clear hrd hch hm
        by_cases hst0 : (m : Int) = stop
        · have hq : ((m : Int) == stop) = true := by rw [hst0]; simp
          clear hst0
          gi_wp2
          refine ⟨(KeepsOthers.setCell W2 _ _).from _, rfl, ⟨true, HR.out.c2.set _, fun h => (by cases h)⟩, HR.out.below.setCell (p := ⟨w.heap.size + 1 + 1, 0, none⟩) (by show w.heap.size ≤ w.heap.size + 1 + 1; omega) _⟩
        · have hq : ((m : Int) == stop) = false := beq_eq_false_iff_ne.2 hst0
          clear hst0
          have g0 : (0 : Int) ≤ (p : Int) := by omega
          have g1 : (p : Int) ≤ (s.size : Int) := by omega
          obtain ⟨y, hy⟩ : ∃ y, x.1 = y := ⟨_, rfl⟩
          rw [hy] at HCh2 HEn2 HSt hx ⊢
          clear hy
          by_cases hyp : y = p
          · subst hyp
            have hq1 : ((y : Int) != (y : Int)) = false := by simp
            have hq2 : ((rn s.data.toList y).1 != (rn s.data.toList y).1) = false := by simp
            have hst1 := HSt.out
            rw [hdl] at hst1
            generalize rn s.data.toList y = R at *
            obtain ⟨r, k⟩ := R
            dsimp only at *
            gi_wp2_with (refine ⟨trivial, ?_⟩; gi_at_call 11; refine (CallsIn.inRound l (callsIn_wide.2 (CX3.out _))).mono ?_; rintro e w4 ⟨rfl, hb4⟩; have HB4 := Lib.hid hb4; have R4 := Lib.hid (HR.out.later hb4); have ca4 := R4.out.ca.cell; have cm4 := R4.out.cm.cell; have fa4 := R4.out.ca.frozen; have fm4 := R4.out.cm.frozen; have cm5 := (R4.out.cm.other (B' := Ba) (by omega) (.int .i64 ((y : Int) + (k : Int)))).cell; have fm5 := (R4.out.cm.other (B' := Ba) (by omega) (.int .i64 ((y : Int) + (k : Int)))).frozen; clear hb4)
            have R5 := R4.out.step (p' := (y : Int) + (k : Int)) (m' := (m : Int) + 1) (by omega) (by omega) (by omega)
            refine ⟨((keeps_below HB4.out).trans ((KeepsOthers.setCell _ _ _).trans (KeepsOthers.setCell _ _ _))).from _, ⟨((HB4.out.mono hB0).setCell (p := ⟨Ba, 0, none⟩) (by show w.heap.size ≤ Ba; omega) _).setCell (p := ⟨Ba + 1, 0, none⟩) (by show w.heap.size ≤ Ba + 1; omega) _, fun _ => R5.ct.cell⟩, (by first | exact HCh2.out.2 rfl | exact HCh2.out.2 trivial), ?_⟩
            rw [HEn2.out, List.length_append, HM.out]
            exact R5
          · have hq1 : ((y : Int) != (p : Int)) = true := bne_iff_ne.2 (by omega)
            gi_wp2_with (refine ⟨trivial, ?_⟩; gi_at_call 11; refine (CallsIn.inRound l (callsIn_wide.2 (CX3.out _))).mono ?_; rintro e w4 ⟨rfl, hb4⟩; have HB4 := Lib.hid hb4; have R4 := Lib.hid (HR.out.later hb4); have ca4 := R4.out.ca.cell; have c24 := R4.out.c2.cell; have f24 := R4.out.c2.frozen; clear hb4)
            refine ⟨((keeps_below HB4.out).trans (KeepsOthers.setCell _ _ _)).from _, rfl, ⟨false, R4.out.c2.set _, fun _ hc => hyp (HCh2.out.1 hc)⟩, R4.out.below.setCell (p := ⟨w.heap.size + 1 + 1, 0, none⟩) (by show w.heap.size ≤ w.heap.size + 1 + 1; omega) _⟩
      case done =>
        rintro D ys W hD ⟨hch, hend⟩ ⟨_, hrd⟩ hK
        rw [hend] at hrd
        have ca := hrd.ca.cell
        have c0 := hrd.c0.cell
        have c2 := hrd.c2.cell
        have f2 := hrd.c2.frozen
        have HR := Lib.hid hrd
        clear hrd hch hend
        gi_wp2
        have hK' := (KeepsOthers.setCell W ⟨w.heap.size + 1 + 1, 0, none⟩ (.bool true)).same D _ hK rfl
        refine ⟨by simp, .inl ⟨_, _, rfl, run_takeDeferred hK', ?_⟩⟩
        have hc5 := cell_kept (HR.out.c2.set (.bool true)).cell (grownBy_putObj' _ D (.deferred none)) (fun r e => by cases e; exact ⟨_, hK', rfl⟩)
        refine ⟨.bool true, ?_, rfl, (HR.out.below.setCell (p := ⟨w.heap.size + 1 + 1, 0, none⟩) (by show w.heap.size ≤ w.heap.size + 1 + 1; omega) _).trans (belowK_b (w := w) (Nat.le_refl _) _ D _ _ (by have := HRd.out.below.size; omega) hK' rfl rfl)⟩
        simp [results, Tryd.f3, go_sem, hc5]
      case stop =>
        rintro D c pre W hD hch ⟨rfl, ⟨b, hb, hbt⟩, hB⟩ hK
        have hbt : b = true := by
          cases b with
          | true => rfl
          | false => exact absurd hch (hbt rfl)
        subst hbt
        have HB := Lib.hid hB
        have HBx := Lib.hid hb
        clear hB hb
        gi_wp2
        refine ⟨by simp, .inl ⟨_, _, rfl, run_takeDeferred hK, ?_⟩⟩
        have hc5 := cell_kept HBx.out.cell (grownBy_putObj' _ D (.deferred none)) (fun r e => by cases e; exact ⟨_, hK, rfl⟩)
        refine ⟨.bool true, ?_, rfl, HB.out.trans (belowK_b (w := w) (Nat.le_refl _) _ D _ _ (by have := HRd.out.below.size; omega) hK rfl rfl)⟩
        simp [results, Tryd.f3, go_sem, hc5]
  · have h1z : (1000 : Int) < (s.size : Int) := by omega
    gi_wp2
    have hr1 : (w1.setCell ⟨w.heap.size + 1 + 1, 0, none⟩ (.bool true)).cell? ⟨w.heap.size + 1 + 1, 0, none⟩ = some (.bool true) := (E1.out.c2.set (.bool true)).cell
    refine ⟨.bool true, ?_, rfl, E1.out.below.setCell (p := ⟨w.heap.size + 1 + 1, 0, none⟩) (by show w.heap.size ≤ w.heap.size + 1 + 1; omega) _⟩
    simp [results, Tryd.f3, go_sem, hr1]
end Go.Proofs.YtbmpnakhaeaneaaDoor
