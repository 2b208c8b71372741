/- The sum of bytes: what addByte and Crc answer, for any byte and any texts; nothing that was there is changed. -/
import Derived.Test.YtjfclpicoamfaaaRows
import Derived.Test.YtjfclpicoamfaaaZWMath
import Derived.WalkSpells
import Derived.WalkLawsBesides
import Derived.Lib.Hide
import Derived.Laws.BitsAllLaws

namespace Go.Proofs.Ytjfclpicoamfaaa.Fr
open Go.RowKit
theorem ret_u32 {k : IntKind} {a b : Int} (h : a = b) : Value.int k a = .int k b := by rw [h]
def Strs (w : World) (v : Value) (L : List ByteArray) : Prop := (v = .slice none 0 0 /\ L = []) \/ ∃ b off c, v = .slice (some ⟨b, off, none⟩) L.length c /\ b < w.heap.size /\ ∀ j (h : j < L.length), w.cell? ⟨b, off + j, none⟩ = some (.string L[j])
def joinB (L : List ByteArray) : List UInt8 := L.flatMap fun s => s.data.toList
theorem take_snoc (s : ByteArray) (k : Nat) (h : k < s.size) : s.data.toList.take (k + 1) = s.data.toList.take k ++ [s[k]] := by
 rw [List.take_succ_eq_append_getElem (by simpa using h)]; rfl
end Go.Proofs.Ytjfclpicoamfaaa.Fr
