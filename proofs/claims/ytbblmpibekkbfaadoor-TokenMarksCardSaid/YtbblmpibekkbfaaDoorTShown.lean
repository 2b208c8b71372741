/- The chapter's examples. -/
import Derived.Test.YtbblmpibekkbfaaDoorTProg
namespace Go.Proofs.YtbblmpibekkbfaaDoor
open Go.RowKit

theorem below_nextT {w a b : World} (h : Below w.heap.size w a) (hb : Below a.heap.size a b) : Below w.heap.size w b := h.trans (hb.mono h.size)
theorem shown_toks : tokL ⟨#[84, 104, 101, 32, 113, 117, 105, 99, 107, 44, 32, 98, 114, 111, 119, 110, 45, 102, 111, 120, 32, 116, 104, 101, 32, 50, 110, 100]⟩ = [(⟨#[113, 117, 105, 99, 107]⟩, 1), (⟨#[98, 114, 111, 119, 110]⟩, 2), (⟨#[102, 111, 120]⟩, 3), (⟨#[50, 110, 100]⟩, 5)] := by decide +kernel
theorem shown_terms : trmL ⟨#[98, 32, 97, 49, 32, 66, 32, 122, 122]⟩ = [⟨#[97, 49]⟩, ⟨#[98]⟩, ⟨#[122, 122]⟩] := by decide +kernel
theorem shown_the : isStop [116, 104, 101] = true := by decide
theorem shown_The : isStop [84, 104, 101] = false := by decide
set_option maxRecDepth 100000 in
set_option maxHeartbeats 4000000 in
theorem shown11_any (w : World) (hT : TabsT w) : Calls Tryd.prog 8 #[] w fun e w' => e = .returned (.bool true) ∧ Below w.heap.size w w' := by
  have HT := Lib.hid hT
  clear hT
  have C1 := Lib.hid (ptokens_any ⟨#[84, 104, 101, 32, 113, 117, 105, 99, 107, 44, 32, 98, 114, 111, 119, 110, 45, 102, 111, 120, 32, 116, 104, 101, 32, 50, 110, 100]⟩ w HT.out (by decide))
  have C2 := Lib.hid (fun W hW => pterms_any ⟨#[98, 32, 97, 49, 32, 66, 32, 122, 122]⟩ W (HT.out.below hW) (by decide))
  have C3 := Lib.hid (fun W => pstop_any ⟨#[116, 104, 101]⟩ W (by decide))
  have C4 := Lib.hid (fun W => pstop_any ⟨#[84, 104, 101]⟩ W (by decide))
  have D1 := Lib.hid (fun va vb W h1 h2 => sameK_any [(⟨#[113, 117, 105, 99, 107]⟩, 1), (⟨#[98, 114, 111, 119, 110]⟩, 2), (⟨#[102, 111, 120]⟩, 3), (⟨#[50, 110, 100]⟩, 5)] va vb W h1 h2 (by decide))
  have D2 := Lib.hid (fun va vb W h1 h2 => sameT_any [⟨#[97, 49]⟩, ⟨#[98]⟩, ⟨#[122, 122]⟩] va vb W h1 h2 (by decide))
  rw [shown_toks] at C1
  simp only [shown_terms] at C2
  simp only [shown_the] at C3
  simp only [shown_The] at C4
  go_enter Tryd.func8, Tryd.ntmps8
  go_wp2_with fail
  refine C1.out.mono ?_
  rintro e w1 ⟨v1, rfl, hr, _, hb⟩
  have H1 := Lib.hid hb
  have HR1 := Lib.hid hr
  clear hb hr C1
  go_wp2_with fail
  refine (D1.out _ _ _ (HR1.out.below (below_lit _)) (lit_rdK _ rfl rfl)).mono ?_
  rintro e w2 ⟨rfl, hb⟩
  have H2 := Lib.hid (below_nextT H1.out (below_nextT (below_lit _) hb))
  clear hb H1 HR1 D1
  go_wp2_with fail
  refine (C2.out _ H2.out).mono ?_
  rintro e w3 ⟨v3, rfl, hr, hb⟩
  have H3 := Lib.hid (below_nextT H2.out hb)
  have HR3 := Lib.hid hr
  clear hb hr C2 H2
  go_wp2_with fail
  refine (D2.out _ _ _ (HR3.out.below (below_lit _)) (lit_rdT _ rfl rfl)).mono ?_
  rintro e w4 ⟨rfl, hb⟩
  have H4 := Lib.hid (below_nextT H3.out (below_nextT (below_lit _) hb))
  clear hb H3 HR3 D2
  go_wp2_with fail
  refine (C3.out _).mono ?_
  rintro e w5 ⟨rfl, hb⟩
  have H5 := Lib.hid (below_nextT H4.out hb)
  clear hb C3 H4
  go_wp2_with fail
  refine (C4.out _).mono ?_
  rintro e w6 ⟨rfl, hb⟩
  have H6 := Lib.hid (below_nextT H5.out hb)
  clear hb C4 H5
  go_wp2
  go_ret
  exact ⟨rfl, H6.out⟩
end Go.Proofs.YtbblmpibekkbfaaDoor
