/- The six walks over arguments as they are opened. -/
import Derived.Test.YtjcajeilhcjneaaZPoOpen
import Derived.Test.YtjcajeilhcjneaaZPrFrom
import Derived.Test.YtjcajeilhcjneaaZPoShiftW

namespace Go.Proofs.Ytjcajeilhcjneaa.Po
open Go.RowKit
theorem poreads_any (s : ByteArray) (v : Value) (at_ to_ : Int) (L : List Pg) (w : World) (hs : s.size <= maxLen) (h : PostsA w v L) (hat : -9223372036854775808 <= at_ /\ at_ <= 9223372036854775807) (hto : -9223372036854775808 <= to_ /\ to_ <= 9223372036854775807) :
  Calls Try.prog 4 #[.string s, v, .int .i64 at_, .int .i64 to_] w fun e w' => e = .returned (.bool true) /\ Below w.heap.size w w' := poreads_walk s v L at_ to_ w h.1 h.2.1 h.2.2 hs hat hto
end Go.Proofs.Ytjcajeilhcjneaa.Po
