/- What the document's Pack and Unpack of entries answer. -/
import Derived.Test.YtjfclpicoamfaaaZDiBase
import Derived.Deep.DeepCutAuto
import Derived.Deep.CutBlock

namespace Go.Proofs.Ytjfclpicoamfaaa.Di
open Go.RowKit
open Fr (varL textL rdV rdT rdV_some rdT_some bs)
theorem infoXE : (Try.prog.info? 52).map (fun i => (i.zero, i.size, i.bytes)) = some (some (.agg #[.string ⟨#[]⟩, .string ⟨#[]⟩]), 2, 32) := by kernel_rfl
theorem rdT_len {l t r : List UInt8} (h : rdT l = some (t, r)) : t.length + r.length <= l.length := by
 have := rdT_some h
 rw [<- this, List.length_append]
 unfold textL
 rw [List.length_append]; omega
theorem dEnt_no1 {p l : List UInt8} (h : rdV l = none) : dEnt p l = none := by unfold dEnt; rw [h]; rfl
theorem dEnt_no2 {p l q : List UInt8} {k : Nat} (h : rdV l = some (k, q)) (hk : ¬ k <= p.length) : dEnt p l = none := by unfold dEnt; rw [h, Option.bind_some]; dsimp only; rw [if_neg hk]
theorem dEnt_yes {p l q t q2 v q3 : List UInt8} {k : Nat} (h : rdV l = some (k, q)) (hk : k <= p.length) (h1 : rdT q = some (t, q2)) (h2 : rdT q2 = some (v, q3)) : dEnt p l = some (⟨bs (p.take k ++ t), bs v⟩, q3) := by
 unfold dEnt; rw [h, Option.bind_some]; dsimp only; rw [if_pos hk, h1, Option.bind_some]; dsimp only; rw [h2]; rfl
theorem ext_take (s : ByteArray) (k : Nat) : s.extract 0 k = bs (s.data.toList.take k) := by
 apply ByteArray.ext
 rw [ByteArray.data_extract]
 unfold bs
 apply Array.ext'
 simp
end Go.Proofs.Ytjfclpicoamfaaa.Di
