/- TokenWords: the walk. -/
import Derived.Test.YtbblmpibekkbfaaDoorTShown
namespace Go.Proofs.YtbblmpibekkbfaaDoor
open Go.RowKit

theorem tokL_len (s : ByteArray) : (tokL s).length ≤ s.size := by
  have hw := words_small s.data.toList
  rw [data_len] at hw
  exact Nat.le_trans (toksL_len _ _) hw.1
theorem termsL_len (L : List (ByteArray × Int)) : (termsL L).length ≤ L.length := by
  have h : ∀ (l o : List ByteArray), (l.foldl insT o).length ≤ o.length + l.length := by
    intro l
    induction l with
    | nil => intro o; exact Nat.le_refl _
    | cons t l ih =>
      intro o
      have a := ih (insT o t)
      have b := insT_len o t
      rw [List.foldl_cons, List.length_cons]
      omega
  have := h (L.map (·.1)) []
  unfold termsL
  simpa using this
theorem trmL_len (s : ByteArray) : (trmL s).length ≤ s.size := Nat.le_trans (termsL_len _) (tokL_len s)
set_option maxRecDepth 100000 in
set_option maxHeartbeats 4000000 in
theorem tokwords_walk (s : ByteArray) (w : World) (hT : TabsT w) (hs : s.size ≤ maxLen) : Calls Tryd.prog 3 #[.string s] w fun e w' => e = .returned (.bool true) ∧ Below w.heap.size w w' := by
  have HT := Lib.hid hT
  clear hT
  have CS := Lib.hid (shown11_any w HT.out)
  unfold maxLen at hs
  by_cases h1 : s.size ≤ 1500
  · have C1 := Lib.hid (fun W hW => ptokens_any s W (HT.out.below hW) (by omega))
    have C2 : Hid (∀ W, Calls Tryd.prog 11 #[.string s] W fun e w' => ∃ v, e = .returned v ∧ RdK w' v (tokL s) ∧ Below W.heap.size W w') := fun W => by
      have hw := words_small s.data.toList
      rw [data_len] at hw
      refine (xtokens_any s W (by omega) ⟨by omega, fun g hg => Nat.le_trans (hw.2 g hg) (by omega)⟩).mono ?_
      rintro e w' ⟨v, rfl, hr, hb⟩
      exact ⟨v, rfl, hr.rd, hb⟩
    have C3 := Lib.hid (fun W hW => pterms_any s W (HT.out.below hW) (by omega))
    have C4 : Hid (∀ W, Calls Tryd.prog 14 #[.string s] W fun e w' => ∃ v, e = .returned v ∧ RdT w' v (trmL s) ∧ Below W.heap.size W w') := fun W => by
      refine (xterms_any s W (by omega)).mono ?_
      rintro e w' ⟨v, rfl, hr, hb⟩
      exact ⟨v, rfl, hr.rd, hb⟩
    have C5 := Lib.hid (fun W => pstop_any s W (by omega))
    have C6 := Lib.hid (fun W => xstop_any s W)
    have D1 := Lib.hid (fun va vb W h1 h2 => sameK_any (tokL s) va vb W h1 h2 (by have := tokL_len s; omega))
    have D2 := Lib.hid (fun va vb W h1 h2 => sameT_any (trmL s) va vb W h1 h2 (by have := trmL_len s; omega))
    generalize tokL s = LK at *
    generalize trmL s = LT at *
    generalize isStop s.data.toList = b at *
    have hbb : (b == b) = true := by simp
    go_enter Tryd.func3, Tryd.ntmps3
    go_wp2_with fail
    refine CS.out.mono ?_
    rintro e w1 ⟨rfl, hb⟩
    have H1 := Lib.hid hb
    clear hb
    go_wp2_with fail
    refine (C1.out _ H1.out).mono ?_
    rintro e w2 ⟨v2, rfl, hr, _, hb⟩
    have H2 := Lib.hid (below_nextT H1.out hb)
    have R2 := Lib.hid hr
    clear hb hr
    go_wp2_with fail
    refine (C2.out _).mono ?_
    rintro e w3 ⟨v3, rfl, hr, hb⟩
    have H3 := Lib.hid (below_nextT H2.out hb)
    have R3 := Lib.hid hr
    have R2' := Lib.hid (R2.out.below hb)
    clear hb hr
    go_wp2_with fail
    refine (D1.out _ _ _ R2'.out R3.out).mono ?_
    rintro e w4 ⟨rfl, hb⟩
    have H4 := Lib.hid (below_nextT H3.out hb)
    clear hb
    go_wp2_with fail
    refine (C3.out _ H4.out).mono ?_
    rintro e w5 ⟨v5, rfl, hr, hb⟩
    have H5 := Lib.hid (below_nextT H4.out hb)
    have R5 := Lib.hid hr
    clear hb hr
    go_wp2_with fail
    refine (C4.out _).mono ?_
    rintro e w6 ⟨v6, rfl, hr, hb⟩
    have H6 := Lib.hid (below_nextT H5.out hb)
    have R6 := Lib.hid hr
    have R5' := Lib.hid (R5.out.below hb)
    clear hb hr
    go_wp2_with fail
    refine (D2.out _ _ _ R5'.out R6.out).mono ?_
    rintro e w7 ⟨rfl, hb⟩
    have H7 := Lib.hid (below_nextT H6.out hb)
    clear hb
    go_wp2_with fail
    refine (C5.out _).mono ?_
    rintro e w8 ⟨rfl, hb⟩
    have H8 := Lib.hid (below_nextT H7.out hb)
    clear hb
    go_wp2_with fail
    refine (C6.out _).mono ?_
    rintro e w9 ⟨rfl, hb⟩
    have H9 := Lib.hid (below_nextT H8.out hb)
    clear hb
    go_wp2
    go_ret
    exact ⟨rfl, H9.out⟩
  · go_enter Tryd.func3, Tryd.ntmps3
    go_wp2_with fail
    refine CS.out.mono ?_
    rintro e w1 ⟨rfl, hb⟩
    have H1 := Lib.hid hb
    clear hb
    go_wp2
    go_ret
    exact ⟨rfl, H1.out⟩
end Go.Proofs.YtbblmpibekkbfaaDoor
