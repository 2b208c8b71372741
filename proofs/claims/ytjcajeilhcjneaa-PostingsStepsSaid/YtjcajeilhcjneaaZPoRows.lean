/- The six walks over arguments as they are opened. -/
import Derived.Test.YtjcajeilhcjneaaZPoOpen
import Derived.Test.YtjcajeilhcjneaaZPrFrom
import Derived.Test.YtjcajeilhcjneaaZPoShiftW

namespace Go.Proofs.Ytjcajeilhcjneaa.Po
open Go.RowKit
theorem posteps_any (v : Value) (L : List Pg) (w : World) (h : PostsA w v L) : Calls Try.prog 8 #[v] w fun e w' => e = .returned (.bool true) /\ Below w.heap.size w w' := posteps_walk v L w h.1 h.2.1 h.2.2
end Go.Proofs.Ytjcajeilhcjneaa.Po
