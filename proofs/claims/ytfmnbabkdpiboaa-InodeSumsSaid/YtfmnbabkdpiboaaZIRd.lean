/- The reader of a directory's bytes: what is left to be read, and what number and text answer. -/
import Derived.Test.YtfmnbabkdpiboaaZBase
import Derived.Test.YtfmnbabkdpiboaaZIIns
import Derived.Test.YtfmnbabkdpiboaaZWFix
import Derived.Test.YtfmnbabkdpiboaaZShelf

namespace Go.Proofs.Ytfmnbabkdpiboaa
open Go.RowKit
open Fr (rdV rdT bs str_len)

/-- What is read next of what is left (nothing: it is bad). -/
def nNum (most : Nat) (o : Option (List UInt8)) : Nat × Option (List UInt8) := match o.bind (pNum most) with
  | some (v, r) => (v, some r)
  | none => (0, none)
def nTxt (o : Option (List UInt8)) : ByteArray × Option (List UInt8) := match o.bind rdT with
  | some (t, r) => (⟨t.toArray⟩, some r)
  | none => (⟨#[]⟩, none)
/-- A reader in memory. -/
def RdOK (w : World) (g : Nat) (o : Option (List UInt8)) : Prop := ∃ s b, w.heap[g]? = some (.cells #[.string s, .bool b] 73 (0, 0)) ∧ s.size ≤ 3072 ∧ (∀ l, o = some l → b = false ∧ s.data.toList = l) ∧ (o = none → b = true)
theorem RdOK.lt {w : World} {g : Nat} {o : Option (List UInt8)} (h : RdOK w g o) : g < w.heap.size := by
  obtain ⟨s, b, h, _⟩ := h
  exact (Array.getElem?_eq_some_iff.1 h).1
theorem RdOK.below {w w' : World} {g : Nat} {o : Option (List UInt8)} (h : RdOK w g o) (hb : Below w.heap.size w w') : RdOK w' g o := by
  have hl := h.lt
  obtain ⟨s, b, h, rest⟩ := h
  exact ⟨s, b, (hb.block g hl).trans h, rest⟩
theorem RdOK.only {w w' : World} {g : Nat} {o : Option (List UInt8)} (h : RdOK w g o) {S : Nat → Prop} (hb : Only S w w') (hS : ¬ S g) : RdOK w' g o := by
  have hl := h.lt
  obtain ⟨s, b, h, rest⟩ := h
  exact ⟨s, b, (hb.block g hl hS).trans h, rest⟩
/-- Bad, whatever is left. -/
theorem rd_bad {w : World} {g : Nat} {s : ByteArray} {b : Bool} (h : w.heap[g]? = some (.cells #[.string s, .bool b] 73 (0, 0))) (hs : s.size ≤ 3072) : RdOK (w.setCell ⟨g, 1, none⟩ (.bool true)) g none :=
  ⟨s, true, heap_setCell_at h _, hs, (fun l h => by cases h), fun _ => rfl⟩
theorem rd_on {w : World} {g : Nat} {s t : ByteArray} (h : w.heap[g]? = some (.cells #[.string s, .bool false] 73 (0, 0))) (ht : t.size ≤ 3072) : RdOK (w.setCell ⟨g, 0, none⟩ (.string t)) g (some t.data.toList) :=
  ⟨t, false, heap_setCell_at h _, ht, (fun l h => by cases h; exact ⟨rfl, rfl⟩), (fun h => by cases h)⟩
theorem bs_list (l : List UInt8) : (bs l).data.toList = l := by unfold bs; simp
set_option maxRecDepth 100000 in
set_option maxHeartbeats 2000000 in
theorem number_any (most : Nat) (hm : most ≤ 4294967295) (o : Option (List UInt8)) (g : Nat) (w : World) (h : RdOK w g o) :
    Calls Try.prog 57 #[.pointer (some ⟨g, 0, none⟩), .int .u64 (most : Int)] w fun e w' => e = .returned (.int .i64 ((nNum most o).1 : Int)) ∧ Hid (RdOK w' g (nNum most o).2) ∧ Hid (Only (fun k => k = g) w w') := by
  obtain ⟨s, b, hg, hs, h1, h2⟩ := h
  have hlt := (Array.getElem?_eq_some_iff.1 hg).1
  have HG := Lib.hid hg
  have x0 : w.cell? ⟨g, 0, none⟩ = some (.string s) := cell_at hg 0
  have HX : Hid (∀ W, Below w.heap.size w W → W.heap[g]? = some (.cells #[.string s, .bool b] 73 (0, 0)) ∧ W.cell? ⟨g, 1, none⟩ = some (.bool b) ∧ W.cell? ⟨g, 0, none⟩ = some (.string s) ∧ W.frozen? ⟨g, 1, none⟩ = false ∧ W.frozen? ⟨g, 0, none⟩ = false) := fun W hW => by
    have e := (hW.block g hlt).trans hg
    exact ⟨e, cell_at e 1, cell_at e 0, free_at e 1, free_at e 0⟩
  have HO : Hid (∀ (W : World) (i : Nat) (u : Value), Below w.heap.size w W → Only (fun k => k = g) w (W.setCell ⟨g, i, none⟩ u)) := fun W i u hW => (Only.of_below (fun k => k = g) hW (Nat.le_refl _)).setCell (p := ⟨g, i, none⟩) (fun _ => rfl) u
  cases hv : rdV s.data.toList with
  | none =>
    have hz : nNum most o = (0, none) := by
      unfold nNum
      cases o with
      | none => rfl
      | some l => have := (h1 l rfl).2; subst this; simp [pNum, hv]
    rw [hz]
    have C := Lib.hid (Fr.toVar_no w (by unfold maxLen; omega) hv)
    clear hv h1 h2 hz hg
    go_enter Try.func57, Try.ntmps57
    go_wp2_with fail
    refine C.out.mono ?_
    rintro e w1 ⟨rfl, hb1⟩
    have HB := Lib.hid hb1; clear hb1 C
    obtain ⟨e1, y1, y0, f1, f0⟩ := HX.out w1 HB.out
    have HE := Lib.hid e1; clear e1 x0
    cases b
    all_goals
      go_wp2
      go_ret
      exact ⟨rfl, rd_bad HE.out hs, HO.out w1 1 _ HB.out⟩
  | some p =>
    obtain ⟨v, r⟩ := p
    have C := Lib.hid (Fr.toVar_yes w (by unfold maxLen; omega) hv)
    have hvb := (Fr.rdV_some hv).2.1
    have hrl := Fr.rest_le hv
    rw [str_len] at hrl
    have hQ := Fr.bs_size r
    cases b with
    | true =>
      have hz : nNum most o = (0, none) := by
        unfold nNum
        cases o with
        | none => rfl
        | some l => have := (h1 l rfl).1; cases this
      rw [hz]
      clear hv h1 h2 hz hg
      generalize bs r = Q at *
      go_enter Try.func57, Try.ntmps57
      go_wp2_with fail
      refine C.out.mono ?_
      rintro e w1 ⟨rfl, hb1⟩
      have HB := Lib.hid hb1; clear hb1 C
      obtain ⟨e1, y1, y0, f1, f0⟩ := HX.out w1 HB.out
      have HE := Lib.hid e1; clear e1 x0
      go_wp2
      go_ret
      exact ⟨rfl, rd_bad HE.out hs, HO.out w1 1 _ HB.out⟩
    | false =>
      obtain ⟨l, rfl⟩ : ∃ l, o = some l := by
        cases o with
        | none => have := h2 rfl; cases this
        | some l => exact ⟨l, rfl⟩
      have hl := (h1 l rfl).2
      subst hl
      by_cases hmo : v ≤ most
      · have hz : nNum most (some s.data.toList) = (v, some r) := by simp [nNum, pNum, hv, hmo]
        rw [hz]
        have z1 : ¬ ((most : Int) < (v : Int)) := by omega
        have HR : Hid (∀ W : World, W.heap[g]? = some (.cells #[.string s, .bool false] 73 (0, 0)) → RdOK (W.setCell ⟨g, 0, none⟩ (.string (bs r))) g (some r)) := fun W hW => by
          have := rd_on (t := bs r) hW (by rw [hQ]; omega)
          rw [bs_list] at this
          exact this
        have ww : IntKind.i64.wrap (v : Int) = (v : Int) := IntWalk.i64_in _ (by omega)
        clear hv h1 h2 hz hg
        generalize bs r = Q at *
        go_enter Try.func57, Try.ntmps57
        go_wp2_with fail
        refine C.out.mono ?_
        rintro e w1 ⟨rfl, hb1⟩
        have HB := Lib.hid hb1; clear hb1 C
        obtain ⟨e1, y1, y0, f1, f0⟩ := HX.out w1 HB.out
        have HE := Lib.hid e1; clear e1 x0
        go_wp2
        go_ret
        exact ⟨rfl, HR.out w1 HE.out, HO.out w1 0 _ HB.out⟩
      · have hz : nNum most (some s.data.toList) = (0, none) := by simp [nNum, pNum, hv, hmo]
        rw [hz]
        have z1 : (most : Int) < (v : Int) := by omega
        clear hv h1 h2 hz hg
        generalize bs r = Q at *
        go_enter Try.func57, Try.ntmps57
        go_wp2_with fail
        refine C.out.mono ?_
        rintro e w1 ⟨rfl, hb1⟩
        have HB := Lib.hid hb1; clear hb1 C
        obtain ⟨e1, y1, y0, f1, f0⟩ := HX.out w1 HB.out
        have HE := Lib.hid e1; clear e1 x0
        go_wp2
        go_ret
        exact ⟨rfl, rd_bad HE.out hs, HO.out w1 1 _ HB.out⟩
set_option maxRecDepth 100000 in
set_option maxHeartbeats 2000000 in
theorem clone_any (s : ByteArray) (w : World) (hs : s.size ≤ 1000000) : Calls Try.prog 77 #[.string s] w fun e w' => e = .returned (.string s) ∧ Below w.heap.size w w' := by
  have HC := Lib.hid (Try.stringslite_Clone s w (by omega))
  go_enter Try.func77, Try.ntmps77
  go_wp2_with fail
  refine HC.out.mono ?_
  rintro e w1 ⟨rfl, hb⟩
  have HB := Lib.hid hb; clear hb
  go_wp2
  go_ret
  exact ⟨rfl, HB.out⟩
set_option maxRecDepth 100000 in
set_option maxHeartbeats 2000000 in
theorem textR_any (o : Option (List UInt8)) (g : Nat) (w : World) (h : RdOK w g o) :
    Calls Try.prog 69 #[.pointer (some ⟨g, 0, none⟩)] w fun e w' => e = .returned (.string (nTxt o).1) ∧ Hid (RdOK w' g (nTxt o).2) ∧ Hid (Only (fun k => k = g) w w') := by
  obtain ⟨s, b, hg, hs, h1, h2⟩ := h
  have hlt := (Array.getElem?_eq_some_iff.1 hg).1
  have HG := Lib.hid hg
  have x0 : w.cell? ⟨g, 0, none⟩ = some (.string s) := cell_at hg 0
  have HX : Hid (∀ W, Below w.heap.size w W → W.heap[g]? = some (.cells #[.string s, .bool b] 73 (0, 0)) ∧ W.cell? ⟨g, 1, none⟩ = some (.bool b) ∧ W.cell? ⟨g, 0, none⟩ = some (.string s) ∧ W.frozen? ⟨g, 1, none⟩ = false ∧ W.frozen? ⟨g, 0, none⟩ = false) := fun W hW => by
    have e := (hW.block g hlt).trans hg
    exact ⟨e, cell_at e 1, cell_at e 0, free_at e 1, free_at e 0⟩
  have HO : Hid (∀ (W : World) (i : Nat) (u : Value), Below w.heap.size w W → Only (fun k => k = g) w (W.setCell ⟨g, i, none⟩ u)) := fun W i u hW => (Only.of_below (fun k => k = g) hW (Nat.le_refl _)).setCell (p := ⟨g, i, none⟩) (fun _ => rfl) u
  cases hv : rdT s.data.toList with
  | none =>
    have hz : nTxt o = (⟨#[]⟩, none) := by
      unfold nTxt
      cases o with
      | none => rfl
      | some l => have := (h1 l rfl).2; subst this; simp [hv]
    rw [hz]
    have C := Lib.hid (Fr.toText_no w (by unfold maxLen; omega) hv)
    clear hv h1 h2 hz hg
    go_enter Try.func69, Try.ntmps69
    go_wp2_with fail
    refine C.out.mono ?_
    rintro e w1 ⟨rfl, hb1⟩
    have HB := Lib.hid hb1; clear hb1 C
    obtain ⟨e1, y1, y0, f1, f0⟩ := HX.out w1 HB.out
    have HE := Lib.hid e1; clear e1 x0
    cases b
    all_goals
      go_wp2
      go_ret
      exact ⟨rfl, rd_bad HE.out hs, HO.out w1 1 _ HB.out⟩
  | some p =>
    obtain ⟨v, r⟩ := p
    have C := Lib.hid (Fr.toText_yes w (by unfold maxLen; omega) hv)
    have hrl := Fr.rdT_some hv
    have hlen : v.length ≤ 3072 ∧ r.length ≤ 3072 := by
      have h3 := congrArg List.length hrl
      unfold Fr.textL at h3
      rw [str_len] at h3
      simp only [List.length_append] at h3
      omega
    have hQ := Fr.bs_size r
    have hP := Fr.bs_size v
    cases b with
    | true =>
      have hz : nTxt o = (⟨#[]⟩, none) := by
        unfold nTxt
        cases o with
        | none => rfl
        | some l => have := (h1 l rfl).1; cases this
      rw [hz]
      clear hv h1 h2 hz hg hrl
      generalize bs r = Q at *
      generalize bs v = P at *
      go_enter Try.func69, Try.ntmps69
      go_wp2_with fail
      refine C.out.mono ?_
      rintro e w1 ⟨rfl, hb1⟩
      have HB := Lib.hid hb1; clear hb1 C
      obtain ⟨e1, y1, y0, f1, f0⟩ := HX.out w1 HB.out
      have HE := Lib.hid e1; clear e1 x0
      go_wp2
      go_ret
      exact ⟨rfl, rd_bad HE.out hs, HO.out w1 1 _ HB.out⟩
    | false =>
      obtain ⟨l, rfl⟩ : ∃ l, o = some l := by
        cases o with
        | none => have := h2 rfl; cases this
        | some l => exact ⟨l, rfl⟩
      have hl := (h1 l rfl).2
      subst hl
      have hz : nTxt (some s.data.toList) = (bs v, some r) := by simp [nTxt, hv, bs]
      rw [hz]
      have HR : Hid (∀ W : World, W.heap[g]? = some (.cells #[.string s, .bool false] 73 (0, 0)) → RdOK (W.setCell ⟨g, 0, none⟩ (.string (bs r))) g (some r)) := fun W hW => by
        have := rd_on (t := bs r) hW (by rw [hQ]; omega)
        rw [bs_list] at this
        exact this
      have HCl := Lib.hid fun W => clone_any (bs v) W (by omega)
      clear hv h1 h2 hz hg hrl
      generalize bs r = Q at *
      generalize bs v = P at *
      go_enter Try.func69, Try.ntmps69
      go_wp2_with fail
      refine C.out.mono ?_
      rintro e w1 ⟨rfl, hb1⟩
      have HB := Lib.hid hb1; clear hb1 C
      obtain ⟨e1, y1, y0, f1, f0⟩ := HX.out w1 HB.out
      have HE := Lib.hid e1; clear e1 x0
      go_wp2_with fail
      refine (HCl.out _).mono ?_
      rintro e w2 ⟨rfl, hb2⟩
      have HB2 := Lib.hid hb2; clear hb2
      have HR1 := Lib.hid (HR.out w1 HE.out)
      have HO1 := Lib.hid (HO.out w1 0 (.string Q) HB.out)
      go_wp2
      go_ret
      exact ⟨rfl, HR1.out.below HB2.out, HO1.out.trans (Only.of_below (fun k => k = g) HB2.out (Nat.le_refl _)) (fun _ _ h => h)⟩
end Go.Proofs.Ytfmnbabkdpiboaa
