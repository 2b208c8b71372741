/- The six walks over arguments as they are opened. -/
import Derived.Test.YtjcajeilhcjneaaZPoOpen
import Derived.Test.YtjcajeilhcjneaaZPrFrom
import Derived.Test.YtjcajeilhcjneaaZPoShiftW

namespace Go.Proofs.Ytjcajeilhcjneaa.Po
open Go.RowKit
theorem poback_any (v : Value) (s : ByteArray) (L : List Pg) (w : World) (h : PostsA w v L) (hs : s.size <= maxLen) : Calls Try.prog 6 #[v, .string s] w fun e w' => e = .returned (.bool true) /\ Below w.heap.size w w' := poback_walk v L s w h.1 h.2.1 h.2.2 hs
end Go.Proofs.Ytjcajeilhcjneaa.Po
