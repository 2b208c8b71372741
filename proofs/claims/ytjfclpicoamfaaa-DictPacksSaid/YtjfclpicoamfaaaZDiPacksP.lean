/- DictPacks: for a dictionary, the call returns true, and each argument reads afterwards as it read before. No condition. -/
import Derived.Test.YtjfclpicoamfaaaZDiOpen

set_option maxRecDepth 100000
namespace Go.Proofs.Ytjfclpicoamfaaa.lawDiPacks
open Di
open Go.ChangeShapes Go.WideShapes Go.ChangeAt Go.RowKit
theorem lifted (os : Os) (started : os.Started) (H : Type) (enc : TypeId × Value -> H) :
  ReturnsInHanded {} Try.checked os 3 .any (Rows.dictPacksSpec.pre6 enc Try.prog Try.f3 Rows.dictPacksRow.domain false) (Rows.dictPacksSpec.post enc Try.prog Try.f3 false true false false) := by
 refine returnsInHanded_of_change (C := Try.checked) Try.ownK started (by kernel_rfl) Try.func3
  (ChangeSpec.witness6 (enc := enc) (C := Try.checked) false ⟨#[], #[.slice none 0 0], []⟩ 8 (by kernel_rfl) (by kernel_rfl) (by kernel_rfl) (by kernel_rfl)) ?_
 intro W base args ds gs before hval0 hW hcnd _
 have hval : ∀ (j : Nat) t v, Try.f3.params[j]? = some t -> args[j]? = some v -> Value.okWide Try.prog W .any base t v := hval0
 have hW' := hW
 obtain ⟨p, q, hA0, hV, rfl, hfz, hnd⟩ := hW
 have hA : DataW.TrodAll enc Try.prog W 0 (fun _ => true) true Try.f3.params.toList args.toList ds p := hA0
 rw [Try.params3] at hA hval
 obtain ⟨v0, d0, rfl, rfl, h0⟩ := trodAll_one hA
 obtain ⟨rfl, rfl⟩ := trodVars_none hV
 obtain ⟨L0, hL0⟩ := open_dents (hval 0 22 v0 rfl rfl) h0
 refine (dipacks_any v0 L0 W hL0).mono fun e W' ⟨he, hb⟩ => ?_
 exact ⟨_, he, law_post (by kernel_rfl) rfl ⟨rfl, rfl, rfl⟩ (of_decide_eq_true (by kernel_rfl)) hW' hb⟩
theorem proved : Rows.DictPacksSaid :=
 OpenClaim.holds_of_wide 3 Try.f3 rfl rfl rfl rfl rfl rfl rfl ⟨rfl, rfl, rfl, rfl, rfl⟩ rfl rfl rfl rfl rfl (by kernel_rfl) Try.func3 (by kernel_rfl)
  (of_decide_eq_true (by kernel_rfl)) (by unfold Func.isWrapper; first | (rw [if_pos (by decide +kernel)]; kernel_rfl) | (rw [if_neg (by decide +kernel)]; exact ⟨rfl, rfl⟩))
  (fun os started H enc _ => lifted os started H enc)
end Go.Proofs.Ytjfclpicoamfaaa.lawDiPacks
