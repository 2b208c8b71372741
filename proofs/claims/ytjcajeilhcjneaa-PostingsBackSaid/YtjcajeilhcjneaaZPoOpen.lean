/- A slice of postings that came in, read cell by cell: it says some list of postings. -/
import Derived.Test.YtjcajeilhcjneaaZLaw
import Derived.Test.YtjcajeilhcjneaaZPoOne
import Derived.SliceStrings
import Derived.Deep.Slices

set_option maxRecDepth 100000
namespace Go.Proofs.Ytjcajeilhcjneaa.Po
open Go.ChangeShapes Go.WideShapes Go.ChangeAt Go.RowKit Go.Deep
theorem addr_plain {w : World} {a : Addr} {v : Value} (h : w.cell? a = some v) : ∃ b off, a = ⟨b, off, none⟩ := by
 obtain ⟨b, off, spot⟩ := a
 unfold World.cell? at h
 split at h
 ·cases spot with
  | none => exact ⟨b, off, rfl⟩
  | some s => simp at h
 ·cases h
theorem cells_int : Try.prog.cellsOf 3 = 1 := by kernel_rfl
theorem cells_ints : Try.prog.cellsOf 35 = 1 := by kernel_rfl
theorem cells_posting : Try.prog.cellsOf 37 = 2 := by kernel_rfl
instance : Inhabited Pg := ⟨⟨0, []⟩⟩
def PostsA (W : World) (v : Value) (L : List Pg) : Prop := SlP W v L /\ L.length <= maxLen /\ ∀ p ∈ L, p.pos.length <= maxLen
section
variable {H : Type} {enc : TypeId × Value -> H} {W : World} {held : Bool}
theorem open_ints {n : Nat} {v : Value} {x : DataW H × List MemPlace} (h : DataW.trod enc Try.prog W 0 (fun _ => true) held n 35 [v] = some x) :
  ∃ L : List Int, SlI W v L /\ L.length <= maxLen := by
 obtain ⟨d, ps⟩ := x
 have hv : ∃ ao len cap, v = .slice ao len cap := by
  rcases open_slice Try.underlying35 h with ⟨hcs, _⟩ | ⟨a, len', cap', m, n, D, Pl, hcs, _⟩
  ·simp only [List.cons.injEq, and_true] at hcs; exact ⟨_, _, _, hcs⟩
  ·simp only [List.cons.injEq, and_true] at hcs; exact ⟨_, _, _, hcs⟩
 obtain ⟨ao, len, cap, rfl⟩ := hv
 rcases open_slice Try.underlying35 h with ⟨hcs, _⟩ | ⟨a, len', cap', m, n, D, Pl, hcs, _, hl, hm, hmm, _, hc⟩
 ·simp only [List.cons.injEq, and_true] at hcs
  cases hcs
  exact ⟨[], ⟨none, 0, rfl, Nat.le_refl _, fun j hj => absurd hj (Nat.not_lt_zero _)⟩, Nat.zero_le _⟩
 ·simp only [List.cons.injEq, and_true] at hcs
  cases hcs
  simp only [if_true] at hmm
  rw [cells_int] at hc
  obtain ⟨F, hF⟩ := choose_lt (α := Int) (n := m) (p := fun i p => W.cell? (a.add (i * 1)) = some (.int .i64 p)) (fun i hi => by
   obtain ⟨cs, h1, h2⟩ := hc i hi
   obtain ⟨_, hlen, hat⟩ := World.cells?_some h1
   match cs, hlen with
   | [c0], _ =>
    obtain ⟨z, e, _, _⟩ := DataW.trod_int Try.underlying3 h2
    simp only [List.cons.injEq, and_true] at e
    subst e
    have := hat 0 (by omega)
    rw [add_add, Nat.add_zero] at this
    exact ⟨z, this⟩)
  have hL : ((List.range len).map F).length = len := by simp
  refine ⟨(List.range len).map F, ⟨some a, cap, by rw [hL], by rw [hL]; exact hl, fun j hj => ?_⟩, by rw [hL]; omega⟩
  have hj' : j < len := by rw [hL] at hj; exact hj
  have hc0 := hF j (by omega)
  obtain ⟨b, off, hab⟩ := addr_plain (hF 0 (by omega))
  obtain ⟨ab, aoff, aspot⟩ := a
  have ha : aspot = none := by simpa [Addr.add] using congrArg Addr.spot hab
  subst ha
  rw [add_atP, Nat.mul_one] at hc0
  refine ⟨ab, aoff, rfl, World.block_lt_of_cell? W _ hc0, ?_⟩
  simp only [List.getElem_map, List.getElem_range]
  exact hc0
theorem posting_cells {n : Nat} {cs : List Value} {x : DataW H × List MemPlace} (hlen : cs.length = 2) (h : DataW.trod enc Try.prog W 0 (fun _ => true) held n 37 cs = some x) :
  ∃ (p : Pg) (ve : Value), p.pos.length <= maxLen /\ SlI W ve p.pos /\ cs = [.int .i64 p.doc, ve] := by
 obtain ⟨xs, n', _, _, _, _, hf⟩ := DataW.trod_struct Try.underlying37 h
 match cs, hlen with
 | [c0, c1], _ =>
  have f0 : DataW.trod enc Try.prog W 0 (fun _ => true) held n' 3 ([c0].take (Try.prog.cellsOf 3)) = xs[0]? := by rw [cells_int]; have := hf 0 _ rfl; simp only [List.getElem_toArray, List.getElem_cons_zero] at this; rw [cells_int] at this; exact this
  have f1 : DataW.trod enc Try.prog W 0 (fun _ => true) held n' 35 [c1] = xs[1]? := by have := hf 1 _ rfl; simp only [List.getElem_toArray, List.getElem_cons_zero, List.getElem_cons_succ] at this; rw [cells_ints] at this; exact this
  rw [cells_int] at f0
  have some_of : ∀ {i : Nat} {o : Option (DataW H × List MemPlace)}, i < xs.length -> o = xs[i]? -> ∃ y, o = some y := fun {i o} hi e => ⟨xs[i], by rw [e, List.getElem?_eq_getElem hi]⟩
  have hxl : xs.length = 2 := by assumption
  obtain ⟨y0, e0⟩ := some_of (by omega) f0
  obtain ⟨y1, e1⟩ := some_of (by omega) f1
  simp only [List.take_succ_cons, List.take_zero] at e0
  obtain ⟨z, h0, _, _⟩ := DataW.trod_int Try.underlying3 e0
  obtain ⟨E, hE, hE2⟩ := open_ints e1
  simp only [List.cons.injEq, and_true] at h0
  subst h0
  exact ⟨⟨z, E⟩, c1, hE2, hE, rfl⟩
theorem open_posts {v : Value} {d : DataW H} {ps : List MemPlace} {r : Reach} {b0 : Nat} (hv : Value.okWide Try.prog W r b0 22 v) (h : DataW.Trod enc Try.prog W 0 (fun _ => true) held 22 v d ps) : ∃ L, PostsA W v L := by
 obtain ⟨ao, len, cap, rfl⟩ := okWide_slice Try.underlying22 hv
 obtain ⟨fuel, hf⟩ := h
 have hf' : DataW.trod enc Try.prog W 0 (fun _ => true) held fuel 22 [.slice ao len cap] = some (d, ps) := by simpa [Value.cells] using hf
 rcases open_slice Try.underlying22 hf' with ⟨hcs, _⟩ | ⟨a, len', cap', m, n, D, Pl, hcs, _, hl, hm, hmm, _, hc⟩
 ·simp only [List.cons.injEq, and_true] at hcs
  cases hcs
  exact ⟨[], ⟨none, 0, rfl, Nat.le_refl _, fun j hj => absurd hj (Nat.not_lt_zero _)⟩, Nat.zero_le _, fun p hp => by cases hp⟩
 ·simp only [List.cons.injEq, and_true] at hcs
  cases hcs
  simp only [if_true] at hmm
  rw [cells_posting] at hc
  obtain ⟨F, hF⟩ := choose_lt (α := Pg) (n := m) (p := fun i f => f.pos.length <= maxLen /\ ∃ ve, SlI W ve f.pos /\ W.cell? (a.add (i * 2)) = some (.int .i64 f.doc) /\ W.cell? (a.add (i * 2 + 1)) = some ve) (fun i hi => by
   obtain ⟨cs, h1, h2⟩ := hc i hi
   obtain ⟨_, hlen, hat⟩ := World.cells?_some h1
   obtain ⟨p, ve, hp, hE, rfl⟩ := posting_cells hlen h2
   have k0 := hat 0 (by omega)
   have k1 := hat 1 (by omega)
   rw [add_add] at k0 k1
   exact ⟨p, hp, ve, hE, k0, k1⟩)
  have hL : ((List.range len).map F).length = len := by simp
  refine ⟨(List.range len).map F, ⟨some a, cap, by rw [hL], by rw [hL]; exact hl, fun j hj => ?_⟩, by rw [hL]; omega, ?_⟩
  ·have hj' : j < len := by rw [hL] at hj; exact hj
   obtain ⟨_, ve, hE, k0, k1⟩ := hF j (by omega)
   obtain ⟨_, _, _, k00, _⟩ := hF 0 (by omega)
   obtain ⟨b, off, hab⟩ := addr_plain k00
   obtain ⟨ab, aoff, aspot⟩ := a
   have ha : aspot = none := by simpa [Addr.add] using congrArg Addr.spot hab
   subst ha
   rw [add_atP] at k0 k1
   refine ⟨ab, aoff, ve, rfl, World.block_lt_of_cell? W _ k0, ?_, ?_, ?_⟩
   ·simp only [List.getElem_map, List.getElem_range]; exact k0
   ·rw [<- Nat.add_assoc] at k1; exact k1
   ·simp only [List.getElem_map, List.getElem_range]; exact hE
  ·intro f hf
   simp only [List.mem_map, List.mem_range] at hf
   obtain ⟨i, hi, rfl⟩ := hf
   exact (hF i (by omega)).1
end
end Go.Proofs.Ytjcajeilhcjneaa.Po
