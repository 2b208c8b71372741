/- A slice of a dictionary's entries that came in, read cell by cell: it says some list of entries. -/
import Derived.Test.YtjfclpicoamfaaaZLaw
import Derived.Test.YtjfclpicoamfaaaZDgPre
import Derived.SliceStrings
import Derived.Deep.Slices

set_option maxRecDepth 100000
namespace Go.Proofs.Ytjfclpicoamfaaa.Di
open Go.ChangeShapes Go.WideShapes Go.ChangeAt Go.RowKit Go.Deep
theorem wf_i64' {k : Int} (h : (Lit.int .i64 k).wf = true) : -9223372036854775808 <= k /\ k <= 9223372036854775807 := by
 simpa [Lit.wf, IntKind.min, IntKind.max, IntKind.signed, IntKind.bits] using h
theorem addr_plain {w : World} {a : Addr} {v : Value} (h : w.cell? a = some v) : ∃ b off, a = ⟨b, off, none⟩ := by
 obtain ⟨b, off, spot⟩ := a
 unfold World.cell? at h
 split at h
 ·cases spot with
  | none => exact ⟨b, off, rfl⟩
  | some s => simp at h
 ·cases h
theorem cells_str : Try.prog.cellsOf 9 = 1 := by kernel_rfl
theorem cells_ent : Try.prog.cellsOf 43 = 2 := by kernel_rfl
instance : Inhabited En := ⟨⟨⟨#[]⟩, ⟨#[]⟩⟩⟩
def EntsA (W : World) (v : Value) (L : List En) : Prop := SlD W v L /\ Fits L
section
variable {H : Type} {enc : TypeId × Value -> H} {W : World} {held : Bool}
theorem ent_cells {n : Nat} {cs : List Value} {x : DataW H × List MemPlace} (hlen : cs.length = 2) (h : DataW.trod enc Try.prog W 0 (fun _ => true) held n 43 cs = some x) :
  ∃ p : En, p.t.size <= maxLen /\ p.v.size <= maxLen /\ cs = [.string p.t, .string p.v] := by
 obtain ⟨xs, n', _, _, _, _, hf⟩ := DataW.trod_struct Try.underlying43 h
 match cs, hlen with
 | [c0, c1], _ =>
  have f0 : DataW.trod enc Try.prog W 0 (fun _ => true) held n' 9 ([c0].take (Try.prog.cellsOf 9)) = xs[0]? := by rw [cells_str]; have := hf 0 _ rfl; simp only [List.getElem_toArray, List.getElem_cons_zero] at this; rw [cells_str] at this; exact this
  have f1 : DataW.trod enc Try.prog W 0 (fun _ => true) held n' 9 [c1] = xs[1]? := by have := hf 1 _ rfl; simp only [List.getElem_toArray, List.getElem_cons_zero, List.getElem_cons_succ] at this; rw [cells_str] at this; exact this
  rw [cells_str] at f0
  have some_of : ∀ {i : Nat} {o : Option (DataW H × List MemPlace)}, i < xs.length -> o = xs[i]? -> ∃ y, o = some y := fun {i o} hi e => ⟨xs[i], by rw [e, List.getElem?_eq_getElem hi]⟩
  have hxl : xs.length = 2 := by assumption
  obtain ⟨y0, e0⟩ := some_of (by omega) f0
  obtain ⟨y1, e1⟩ := some_of (by omega) f1
  simp only [List.take_succ_cons, List.take_zero] at e0
  obtain ⟨s, h0, _, hs⟩ := DataW.trod_string Try.underlying9 e0
  obtain ⟨t, h1, _, ht⟩ := DataW.trod_string Try.underlying9 e1
  simp only [List.cons.injEq, and_true] at h0 h1
  subst h0
  subst h1
  exact ⟨⟨s, t⟩, hs, ht, rfl⟩
theorem open_dents {v : Value} {d : DataW H} {ps : List MemPlace} {r : Reach} {b0 : Nat} (hv : Value.okWide Try.prog W r b0 22 v) (h : DataW.Trod enc Try.prog W 0 (fun _ => true) held 22 v d ps) : ∃ L, EntsA W v L := by
 obtain ⟨ao, len, cap, rfl⟩ := okWide_slice Try.underlying22 hv
 obtain ⟨fuel, hf⟩ := h
 have hf' : DataW.trod enc Try.prog W 0 (fun _ => true) held fuel 22 [.slice ao len cap] = some (d, ps) := by simpa [Value.cells] using hf
 rcases open_slice Try.underlying22 hf' with ⟨hcs, _⟩ | ⟨a, len', cap', m, n, D, Pl, hcs, _, hl, hm, hmm, _, hc⟩
 ·simp only [List.cons.injEq, and_true] at hcs
  cases hcs
  exact ⟨[], ⟨none, 0, rfl, Nat.le_refl _, fun j hj => absurd hj (Nat.not_lt_zero _)⟩, Nat.zero_le _, fun p hp => by cases hp⟩
 ·simp only [List.cons.injEq, and_true] at hcs
  cases hcs
  simp only [if_true] at hmm
  rw [cells_ent] at hc
  obtain ⟨F, hF⟩ := choose_lt (α := En) (n := m) (p := fun i f => f.t.size <= maxLen /\ f.v.size <= maxLen /\ W.cell? (a.add (i * 2)) = some (.string f.t) /\ W.cell? (a.add (i * 2 + 1)) = some (.string f.v)) (fun i hi => by
   obtain ⟨cs, h1, h2⟩ := hc i hi
   obtain ⟨_, hlen, hat⟩ := World.cells?_some h1
   obtain ⟨p, hp, hq, rfl⟩ := ent_cells hlen h2
   have k0 := hat 0 (by omega)
   have k1 := hat 1 (by omega)
   rw [add_add] at k0 k1
   exact ⟨p, hp, hq, k0, k1⟩)
  have hL : ((List.range len).map F).length = len := by simp
  refine ⟨(List.range len).map F, ⟨some a, cap, by rw [hL], by rw [hL]; exact hl, fun j hj => ?_⟩, by rw [hL]; omega, ?_⟩
  ·have hj' : j < len := by rw [hL] at hj; exact hj
   obtain ⟨_, _, k0, k1⟩ := hF j (by omega)
   obtain ⟨_, _, k00, _⟩ := hF 0 (by omega)
   obtain ⟨b, off, hab⟩ := addr_plain k00
   obtain ⟨ab, aoff, aspot⟩ := a
   have ha : aspot = none := by simpa [Addr.add] using congrArg Addr.spot hab
   subst ha
   rw [add_atD] at k0 k1
   refine ⟨ab, aoff, rfl, World.block_lt_of_cell? W _ k0, ?_, ?_⟩
   ·simp only [List.getElem_map, List.getElem_range]; exact k0
   ·simp only [List.getElem_map, List.getElem_range]; rw [<- Nat.add_assoc] at k1; exact k1
  ·intro f hf
   simp only [List.mem_map, List.mem_range] at hf
   obtain ⟨i, hi, rfl⟩ := hf
   exact ⟨(hF i (by omega)).1, (hF i (by omega)).2.1⟩
end
end Go.Proofs.Ytjfclpicoamfaaa.Di
/- The walks over arguments as they are opened. -/
namespace Go.Proofs.Ytjfclpicoamfaaa.Di
open Go.RowKit
theorem divals_any (v : Value) (at_ : Int) (s : ByteArray) (L : List En) (w : World) (h : EntsA w v L) (hat : -9223372036854775808 <= at_ /\ at_ <= 9223372036854775807) (hs : s.size <= maxLen) :
  Calls Try.prog 8 #[v, .int .i64 at_, .string s] w fun e w' => e = .returned (.bool true) /\ Below w.heap.size w w' := divals_walk v L at_ s w h.1 h.2 hs hat
end Go.Proofs.Ytjfclpicoamfaaa.Di
