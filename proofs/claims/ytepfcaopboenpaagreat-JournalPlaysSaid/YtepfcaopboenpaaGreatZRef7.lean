/- What model (one act on the document's device) answers and leaves behind: the same as in plain lists, for every act. -/
import Derived.Test.YtepfcaopboenpaaGreatZRef6
import Derived.Test.YtepfcaopboenpaaGreatZAt
import Derived.Test.YtepfcaopboenpaaGreatZRef4

namespace Go.Proofs.YtepfcaopboenpaaGreat
open Go.RowKit
section
variable {S : Nat → Prop} {w : World} {p : Nat} {D : DevS}
theorem RLeaves.behind {w1 w' : World} {D' : DevS} (hb : Below w.heap.size w w1) (h : RLeaves S w1 w' p D') : RLeaves S w w' p D' := by
  obtain ⟨S', h1, h2, h3⟩ := h
  refine ⟨S', fun k hk => ?_, h2, (Only.of_below S hb (Nat.le_refl _)).trans h3 (fun _ _ h => h)⟩
  rcases h1 k hk with h | h
  · exact .inl h
  · exact .inr (Nat.le_trans hb.size h)
theorem rfuse_st (n : Int) (hn : n ≤ 9223372036854775807) (d : RStands S w p D) :
    Calls Tryz.prog 13 #[.pointer (some ⟨p, 0, none⟩), .int .i64 n] w fun e w' => e = .returned (.tuple #[]) ∧ RStands S w' p (D.setFuse n) ∧ Only S w w' := by
  obtain ⟨q, lcap, pv, d⟩ := d
  exact (rfuse_any n hn d).mono fun e w' ⟨h1, h2, h3⟩ => ⟨h1, ⟨q, lcap, pv, h2⟩, h3⟩

end
end Go.Proofs.YtepfcaopboenpaaGreat
