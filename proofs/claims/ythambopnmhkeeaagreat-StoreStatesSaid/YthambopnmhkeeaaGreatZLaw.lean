/- From a walk that answers true and leaves alone what was there to what a statement asks of the call: shared by all statements of this seat. -/
import Derived.Test.YthambopnmhkeeaaGreatRows
import Derived.WalkKit
import Derived.ProofKit
import Derived.Carry

namespace Go.Proofs.YthambopnmhkeeaaGreat
open Go.ChangeShapes Go.WideShapes Go.ChangeAt Go.RowKit

theorem _root_.Go.Proofs.Tryz.ownK : ownKnob Tryz.prog.godebug = none := by kernel_rfl
theorem _root_.Go.Proofs.Tryz.laidK : laidOutB Tryz.prog = true := by kernel_rfl

theorem trodAll_below {H : Type} {enc : TypeId × Value -> H} {P : Program} (hl : laidOutB P = true) {W W' : World} (hb : Below W.heap.size W W') :
    ∀ (ts : List TypeId) (vs : List Value) (ds : List (DataW H)) (ps : List MemPlace), (∀ t ∈ ts, P.readableRec t = true /\ t < P.types.size) -> DataW.TrodAll enc P W 0 (fun _ => true) true ts vs ds ps -> (∀ x ∈ ps, x.block < W.heap.size) ->
      DataW.TrodAll enc P W' 0 (fun b => decide (b < W.heap.size)) true ts vs ds ps
  | [], [], [], _, _, h, _ => h
  | t :: ts, v :: vs, d :: ds, ps, ht, ⟨p, q, h1, h2, e⟩, hlt =>
    ⟨p, q, Below.trod hl (ht t (List.mem_cons_self ..)).1 (ht t (List.mem_cons_self ..)).2 h1 hb (fun x hx => hlt x (by rw [e]; exact List.mem_append_left _ hx)),
      trodAll_below hl hb ts vs ds q (fun u hu => ht u (List.mem_cons_of_mem _ hu)) h2 (fun x hx => hlt x (by rw [e]; exact List.mem_append_right _ hx)), e⟩

theorem law_post {H : Type} {enc : TypeId × Value -> H} {f : Func} {s : ChangeSpec} {W W' : World} {args : Array Value} {ds : List (DataW H)} {before : List MemPlace}
    (hr : f.resultTypes = #[4]) (hv : s.vars = []) (hfn : (s.fn H (ds ++ [])).results = [.lit (.bool true)] /\ (s.fn H (ds ++ [])).args = ds /\ (s.fn H (ds ++ [])).vars = [])
    (ht : ∀ t ∈ f.params.toList, Tryz.prog.readableRec t = true /\ t < Tryz.prog.types.size)
    (hW : DataW.Whole enc Tryz.prog f.params.toList s.vars false W args.toList ds [] before) (hb : Below W.heap.size W W') :
    s.post enc Tryz.prog f false true false false W args (.bool true) W' := by
  have hlt : ∀ x ∈ before, x.block < W.heap.size := fun x hx => by simpa using hW.lt x hx
  have hW0 := hW
  obtain ⟨p, q, hA, hV, hpq, _⟩ := hW
  have hq : q = [] := by rw [hv] at hV; exact hV
  subst hq
  have hp : before = p := by rw [hpq, List.append_nil]
  subst hp
  refine ⟨ds, [], before, [], before, [], hW0, ?_, ?_, ?_, ?_, fun h => by cases h⟩
  . rw [hr, hfn.1]; exact trodAll_mk1 (shut_bool Tryz.underlying4 true)
  . rw [hfn.2.1]; exact trodAll_below Tryz.laidK hb _ _ _ _ ht hA hlt
  . rw [hfn.2.2, hv]; rfl
  . exact hb.frame _

end Go.Proofs.YthambopnmhkeeaaGreat
/- The sum of bytes, and numbers and texts as bytes, in plain numbers and lists: nothing of the program is walked here. -/
namespace Go.Proofs.YthambopnmhkeeaaGreat.Fr

def cStep (c : Nat) : Nat := if c % 2 = 1 then c / 2 ^^^ 3988292384 else c / 2
def cIter : Nat -> Nat -> Nat
  | 0, c => c
  | n + 1, c => cIter n (cStep c)
def addB (c : Nat) (b : UInt8) : Nat := cIter 8 (c ^^^ b.toNat)
def crcRaw (c : Nat) (l : List UInt8) : Nat := l.foldl addB c
def crcL (l : List UInt8) : Nat := crcRaw 4294967295 l ^^^ 4294967295

theorem cIter_add (m n c : Nat) : cIter (m + n) c = cIter n (cIter m c) := by
  induction m generalizing c with
  | zero => rw [Nat.zero_add]; rfl
  | succ m ih =>
    have e : m + 1 + n = m + n + 1 := by omega
    rw [e]; show cIter (m + n) (cStep c) = cIter n (cIter m (cStep c)); exact ih _
theorem cIter_succ' (n c : Nat) : cIter (n + 1) c = cStep (cIter n c) := cIter_add n 1 c
theorem cStep_lt (c : Nat) (h : c < 4294967296) : cStep c < 4294967296 := by
  unfold cStep
  split
  . have : c / 2 ^^^ 3988292384 < 2 ^ 32 := Nat.xor_lt_two_pow (by omega) (by omega)
    omega
  . omega
theorem cIter_lt (n c : Nat) (h : c < 4294967296) : cIter n c < 4294967296 := by
  induction n generalizing c with
  | zero => exact h
  | succ n ih => exact ih _ (cStep_lt c h)
theorem xor_lt32 (a b : Nat) (ha : a < 4294967296) (hb : b < 4294967296) : a ^^^ b < 4294967296 := by
  have : a ^^^ b < 2 ^ 32 := Nat.xor_lt_two_pow (by omega) (by omega)
  omega
theorem byte_lt (b : UInt8) : b.toNat < 256 := b.toNat_lt
theorem addB_lt (c : Nat) (b : UInt8) (h : c < 4294967296) : addB c b < 4294967296 := cIter_lt _ _ (xor_lt32 _ _ h (by have := byte_lt b; omega))
theorem crcRaw_lt (l : List UInt8) (c : Nat) (h : c < 4294967296) : crcRaw c l < 4294967296 := by
  induction l generalizing c with
  | nil => exact h
  | cons b l ih => exact ih _ (addB_lt c b h)
theorem crcL_lt (l : List UInt8) : crcL l < 4294967296 := xor_lt32 _ _ (crcRaw_lt l _ (by omega)) (by omega)
theorem crcRaw_append (c : Nat) (l m : List UInt8) : crcRaw c (l ++ m) = crcRaw (crcRaw c l) m := List.foldl_append ..
theorem crcRaw_snoc (c : Nat) (l : List UInt8) (b : UInt8) : crcRaw c (l ++ [b]) = addB (crcRaw c l) b := crcRaw_append c l [b]

end Go.Proofs.YthambopnmhkeeaaGreat.Fr
/- Numbers and texts as bytes, in plain numbers and lists: what is written, what is read; nothing of the program is walked here. -/
namespace Go.Proofs.YthambopnmhkeeaaGreat.Fr

def fixL (v : Nat) : List UInt8 := [UInt8.ofNat v, UInt8.ofNat (v / 256), UInt8.ofNat (v / 65536), UInt8.ofNat (v / 16777216)]
def unfix (a b c d : UInt8) : Nat := a.toNat + 256 * b.toNat + 65536 * c.toNat + 16777216 * d.toNat
theorem unfix_fixL (v : Nat) (h : v < 4294967296) : unfix (UInt8.ofNat v) (UInt8.ofNat (v / 256)) (UInt8.ofNat (v / 65536)) (UInt8.ofNat (v / 16777216)) = v := by
  unfold unfix
  simp only [UInt8.toNat_ofNat']
  omega

end Go.Proofs.YthambopnmhkeeaaGreat.Fr
