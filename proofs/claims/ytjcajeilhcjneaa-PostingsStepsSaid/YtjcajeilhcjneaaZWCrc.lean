/- The sum of bytes: what addByte and Crc answer, for any byte and any texts; nothing that was there is changed. -/
import Derived.Test.YtjcajeilhcjneaaRows
import Derived.Test.YtjcajeilhcjneaaZWMath
import Derived.WalkSpells
import Derived.WalkLawsBesides
import Derived.Lib.Hide
import Derived.Laws.BitsAllLaws

namespace Go.Proofs.Ytjcajeilhcjneaa.Fr
open Go.RowKit
theorem ret_u32 {k : IntKind} {a b : Int} (h : a = b) : Value.int k a = .int k b := by rw [h]
theorem take_snoc (s : ByteArray) (k : Nat) (h : k < s.size) : s.data.toList.take (k + 1) = s.data.toList.take k ++ [s[k]] := by
 rw [List.take_succ_eq_append_getElem (by simpa using h)]; rfl
end Go.Proofs.Ytjcajeilhcjneaa.Fr
