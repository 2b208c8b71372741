/- The six walks over arguments as they are opened. -/
import Derived.Test.YtjcajeilhcjneaaZPoOpen
import Derived.Test.YtjcajeilhcjneaaZPrFrom
import Derived.Test.YtjcajeilhcjneaaZPoShiftW

namespace Go.Proofs.Ytjcajeilhcjneaa.Po
open Go.RowKit
theorem pofrom_any (v : Value) (doc other most : Int) (L : List Pg) (w : World) (h : PostsA w v L) (hd : -9223372036854775808 <= doc /\ doc <= 9223372036854775807) (ho : -9223372036854775808 <= other /\ other <= 9223372036854775807) (hm : -9223372036854775808 <= most /\ most <= 9223372036854775807) :
  Calls Try.prog 5 #[v, .int .i64 doc, .int .i64 other, .int .i64 most] w fun e w' => e = .returned (.bool true) /\ Below w.heap.size w w' := pofrom_walk v L doc other most w h.1 h.2.1 h.2.2 hd ho hm
end Go.Proofs.Ytjcajeilhcjneaa.Po
