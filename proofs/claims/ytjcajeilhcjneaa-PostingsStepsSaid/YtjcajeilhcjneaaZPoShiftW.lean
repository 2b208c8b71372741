/- PostingsShift over the contracts. -/
import Derived.Test.YtjcajeilhcjneaaZPrFrom
import Derived.Deep.RegionLaw

namespace Go.Proofs.Ytjcajeilhcjneaa.Po
open Go.RowKit Go.Shelf
open Fr (bs)
section
variable {P : Program}
end
end Go.Proofs.Ytjcajeilhcjneaa.Po
