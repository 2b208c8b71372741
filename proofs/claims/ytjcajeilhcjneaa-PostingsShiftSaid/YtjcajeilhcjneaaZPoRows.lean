/- The six walks over arguments as they are opened. -/
import Derived.Test.YtjcajeilhcjneaaZPoOpen
import Derived.Test.YtjcajeilhcjneaaZPrFrom
import Derived.Test.YtjcajeilhcjneaaZPoShiftW

namespace Go.Proofs.Ytjcajeilhcjneaa.Po
open Go.RowKit
theorem poshift_any (v : Value) (n : Int) (L : List Pg) (w : World) (h : PostsA w v L) (hn : -9223372036854775808 <= n /\ n <= 9223372036854775807) : Calls Try.prog 7 #[v, .int .i64 n] w fun e w' => e = .returned (.bool true) /\ Below w.heap.size w w' := poshift_walk v L n w h.1 h.2.1 h.2.2 hn
end Go.Proofs.Ytjcajeilhcjneaa.Po
