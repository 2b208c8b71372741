/- From a walk that answers true and leaves alone what was there to what a statement asks of the call: shared by all statements of this seat. -/
import Derived.Test.YtjfclpicoamfaaaRows
import Derived.WalkKit
import Derived.ProofKit
import Derived.Carry

namespace Go.Proofs.Ytjfclpicoamfaaa
open Go.ChangeShapes Go.WideShapes Go.ChangeAt Go.RowKit
theorem _root_.Go.Proofs.Try.ownK : ownKnob Try.prog.godebug = none := by kernel_rfl
theorem _root_.Go.Proofs.Try.laidK : laidOutB Try.prog = true := by kernel_rfl
theorem trodAll_below {H : Type} {enc : TypeId × Value -> H} {P : Program} (hl : laidOutB P = true) {W W' : World} (hb : Below W.heap.size W W') :
  ∀ (ts : List TypeId) (vs : List Value) (ds : List (DataW H)) (ps : List MemPlace), (∀ t ∈ ts, P.readableRec t = true /\ t < P.types.size) -> DataW.TrodAll enc P W 0 (fun _ => true) true ts vs ds ps -> (∀ x ∈ ps, x.block < W.heap.size) ->
   DataW.TrodAll enc P W' 0 (fun b => decide (b < W.heap.size)) true ts vs ds ps
 | [], [], [], _, _, h, _ => h
 | t :: ts, v :: vs, d :: ds, ps, ht, ⟨p, q, h1, h2, e⟩, hlt =>
  ⟨p, q, Below.trod hl (ht t (List.mem_cons_self ..)).1 (ht t (List.mem_cons_self ..)).2 h1 hb (fun x hx => hlt x (by rw [e]; exact List.mem_append_left _ hx)),
   trodAll_below hl hb ts vs ds q (fun u hu => ht u (List.mem_cons_of_mem _ hu)) h2 (fun x hx => hlt x (by rw [e]; exact List.mem_append_right _ hx)), e⟩
theorem law_post {H : Type} {enc : TypeId × Value -> H} {f : Func} {s : ChangeSpec} {W W' : World} {args : Array Value} {ds : List (DataW H)} {before : List MemPlace}
  (hr : f.resultTypes = #[4]) (hv : s.vars = []) (hfn : (s.fn H (ds ++ [])).results = [.lit (.bool true)] /\ (s.fn H (ds ++ [])).args = ds /\ (s.fn H (ds ++ [])).vars = [])
  (ht : ∀ t ∈ f.params.toList, Try.prog.readableRec t = true /\ t < Try.prog.types.size)
  (hW : DataW.Whole enc Try.prog f.params.toList s.vars false W args.toList ds [] before) (hb : Below W.heap.size W W') :
  s.post enc Try.prog f false true false false W args (.bool true) W' := by
 have hlt : ∀ x ∈ before, x.block < W.heap.size := fun x hx => by simpa using hW.lt x hx
 have hW0 := hW
 obtain ⟨p, q, hA, hV, hpq, _⟩ := hW
 have hq : q = [] := by rw [hv] at hV; exact hV
 subst hq
 have hp : before = p := by rw [hpq, List.append_nil]
 subst hp
 refine ⟨ds, [], before, [], before, [], hW0, ?_, ?_, ?_, ?_, fun h => by cases h⟩
 ·rw [hr, hfn.1]; exact trodAll_mk1 (shut_bool Try.underlying4 true)
 ·rw [hfn.2.1]; exact trodAll_below Try.laidK hb _ _ _ _ ht hA hlt
 ·rw [hfn.2.2, hv]; rfl
 ·exact hb.frame _
end Go.Proofs.Ytjfclpicoamfaaa
