/- What the document's Pack and Unpack of entries answer. -/
import Derived.Test.YtjfclpicoamfaaaZDiBase
import Derived.Deep.DeepCutAuto
import Derived.Deep.CutBlock

set_option maxRecDepth 100000
namespace Go.Proofs.Ytjfclpicoamfaaa.Di
open Go.RowKit
open Fr (varL textL rdV rdT rdV_some rdT_some bs)
theorem infoXE : (Try.prog.info? 52).map (fun i => (i.zero, i.size, i.bytes)) = some (some (.agg #[.string ⟨#[]⟩, .string ⟨#[]⟩]), 2, 32) := by kernel_rfl
set_option maxHeartbeats 2000000 in
theorem xdpack_any (L : List En) (v : Value) (w : World) (h : SlD w v L) (hn : L.length <= 100000) (hz : ∀ x ∈ L, x.t.size <= 9223372036854775807 /\ x.v.size <= 1000000) :
  Calls Try.prog 12 #[v] w fun e w' => e = .returned (if RightD L then .tuple #[.string (bs (bytesD L)), .int .i64 0] else .tuple #[.string ⟨#[]⟩, .int .i64 1]) /\ Below w.heap.size w w' := by
 have CR := Lib.hid (xdright_any L v w h (by omega) (fun x hx => ⟨(hz x hx).1, by have := (hz x hx).2; omega⟩))
 by_cases hR : RightD L
 ·have CB := Lib.hid (fun W (hW : Below w.heap.size w W) => xdbytes_any L v W (h.below hW) (by omega) (fun x hx => ⟨hR.2.1 x hx, (hz x hx).2⟩))
  rw [if_pos hR]
  rw [decide_eq_true hR] at CR
  clear hR h hz
  generalize bs (bytesD L) = t at *
  go_enter Try.func12, Try.ntmps12
  go_wp2_with fail
  refine CR.out.mono ?_
  rintro e w1 ⟨rfl, hb1⟩
  have HB1 := Lib.hid hb1
  clear hb1
  go_wp2_with fail
  refine (CB.out _ HB1.out).mono ?_
  rintro e w2 ⟨rfl, hb2⟩
  have HB2 := Lib.hid (HB1.out.trans (hb2.mono HB1.out.size))
  clear hb2
  go_wp2_with fail
  go_ret2
  exact ⟨rfl, HB2.out⟩
 ·rw [if_neg hR]
  rw [decide_eq_false hR] at CR
  clear hR h hz
  go_enter Try.func12, Try.ntmps12
  go_wp2_with fail
  refine CR.out.mono ?_
  rintro e w1 ⟨rfl, hb1⟩
  go_wp2_with fail
  go_ret2
  exact ⟨rfl, hb1⟩
theorem rdT_len {l t r : List UInt8} (h : rdT l = some (t, r)) : t.length + r.length <= l.length := by
 have := rdT_some h
 rw [<- this, List.length_append]
 unfold textL
 rw [List.length_append]; omega
theorem dEnt_no1 {p l : List UInt8} (h : rdV l = none) : dEnt p l = none := by unfold dEnt; rw [h]; rfl
theorem dEnt_no2 {p l q : List UInt8} {k : Nat} (h : rdV l = some (k, q)) (hk : ¬ k <= p.length) : dEnt p l = none := by unfold dEnt; rw [h, Option.bind_some]; dsimp only; rw [if_neg hk]
theorem dEnt_yes {p l q t q2 v q3 : List UInt8} {k : Nat} (h : rdV l = some (k, q)) (hk : k <= p.length) (h1 : rdT q = some (t, q2)) (h2 : rdT q2 = some (v, q3)) : dEnt p l = some (⟨bs (p.take k ++ t), bs v⟩, q3) := by
 unfold dEnt; rw [h, Option.bind_some]; dsimp only; rw [if_pos hk, h1, Option.bind_some]; dsimp only; rw [h2]; rfl
theorem ext_take (s : ByteArray) (k : Nat) : s.extract 0 k = bs (s.data.toList.take k) := by
 apply ByteArray.ext
 rw [ByteArray.data_extract]
 unfold bs
 apply Array.ext'
 simp
end Go.Proofs.Ytjfclpicoamfaaa.Di
