/- A slice of acts of layer 6 that came in, read cell by cell: it says some list of acts. -/
import Derived.Test.YteeoglfgilabaaaZCDrop
import Derived.Test.YteeoglfgilabaaaZLaw
import Derived.Deep.Slices

namespace Go.Proofs.Yteeoglfgilabaaa
open Go.ChangeShapes Go.WideShapes Go.ChangeAt Go.RowKit Go.Deep
set_option maxRecDepth 100000

def Act6.cells (a : Act6) : List Value := [.int .i64 a.op, .int .i64 a.at_, .int .u8 a.b, .bool a.bad]
/-- The slice value v says the acts L, in w0. -/
def Acts6 (w0 : World) (v : Value) (L : List Act6) : Prop :=
  (∀ a ∈ L, a.Ok) ∧ L.length ≤ 9223372036854775807 ∧ ∃ ao cap, v = .slice ao L.length cap ∧
    ∀ i (h : i < L.length), ∃ g off, ao = some ⟨g, off, none⟩ ∧ g < w0.heap.size ∧ ∀ j u, (L[i]).cells[j]? = some u → w0.cell? ⟨g, off + i * 4 + j, none⟩ = some u
theorem Acts6.cell {w0 w : World} {v : Value} {L : List Act6} (h : Acts6 w0 v L) (hb : Below w0.heap.size w0 w) (i : Nat) (hi : i < L.length) :
    ∃ g off cap, v = .slice (some ⟨g, off, none⟩) L.length cap ∧ w.cell? ⟨g, off + i * 4, none⟩ = some (.int .i64 L[i].op) ∧ w.cell? ⟨g, off + i * 4 + 1, none⟩ = some (.int .i64 L[i].at_) ∧ w.cell? ⟨g, off + i * 4 + 2, none⟩ = some (.int .u8 L[i].b) ∧ w.cell? ⟨g, off + i * 4 + 3, none⟩ = some (.bool L[i].bad) := by
  obtain ⟨_, _, ao, cap, rfl, hc⟩ := h
  obtain ⟨g, off, rfl, hg, hc⟩ := hc i hi
  have hk : ∀ o, w.cell? ⟨g, o, none⟩ = w0.cell? ⟨g, o, none⟩ := fun o => hb.cell (p := ⟨g, o, none⟩) hg
  exact ⟨g, off, cap, rfl, (hk _).trans (hc 0 _ rfl), (hk _).trans (hc 1 _ rfl), (hk _).trans (hc 2 _ rfl), (hk _).trans (hc 3 _ rfl)⟩

theorem wf_i64' {k : Int} (h : (Lit.int .i64 k).wf = true) : -9223372036854775808 ≤ k ∧ k ≤ 9223372036854775807 := by
  simpa [Lit.wf, IntKind.min, IntKind.max, IntKind.signed, IntKind.bits] using h
theorem addr_plain {w : World} {a : Addr} {v : Value} (h : w.cell? a = some v) : ∃ b off, a = ⟨b, off, none⟩ := by
  obtain ⟨b, off, spot⟩ := a
  unfold World.cell? at h
  split at h
  · cases spot with
    | none => exact ⟨b, off, rfl⟩
    | some s => simp at h
  · cases h
theorem add_plain (b off j : Nat) : (⟨b, off, none⟩ : Addr).add j = ⟨b, off + j, none⟩ := by unfold Addr.add; split <;> simp_all

theorem cells_int : Try.prog.cellsOf 3 = 1 := by kernel_rfl
theorem cells_u8 : Try.prog.cellsOf 5 = 1 := by kernel_rfl
theorem cells_bool : Try.prog.cellsOf 4 = 1 := by kernel_rfl
theorem cells_act : Try.prog.cellsOf 37 = 4 := by kernel_rfl

instance : Inhabited Act6 := ⟨⟨0, 0, 0, false⟩⟩

section
variable {H : Type} {enc : TypeId × Value → H} {W : World} {held : Bool}
/-- Four cells that read as an act are an act's. -/
theorem act_cells {n : Nat} {cs : List Value} {x : DataW H × List MemPlace} (hlen : cs.length = 4) (h : DataW.trod enc Try.prog W 0 (fun _ => true) held n 37 cs = some x) :
    ∃ A : Act6, A.Ok ∧ cs = A.cells := by
  obtain ⟨xs, n', _, _, _, _, hf⟩ := DataW.trod_struct Try.underlying37 h
  match cs, hlen with
  | [c0, c1, c2, c3], _ =>
    have f0 : DataW.trod enc Try.prog W 0 (fun _ => true) held n' 3 ([c0].take (Try.prog.cellsOf 3)) = xs[0]? := by rw [cells_int]; have := hf 0 _ rfl; simp only [List.getElem_toArray, List.getElem_cons_zero] at this; rw [cells_int] at this; exact this
    have f1 : DataW.trod enc Try.prog W 0 (fun _ => true) held n' 3 [c1] = xs[1]? := by have := hf 1 _ rfl; simp only [List.getElem_toArray, List.getElem_cons_zero, List.getElem_cons_succ] at this; rw [cells_int] at this; exact this
    have f2 : DataW.trod enc Try.prog W 0 (fun _ => true) held n' 5 [c2] = xs[2]? := by have := hf 2 _ rfl; simp only [List.getElem_toArray, List.getElem_cons_zero, List.getElem_cons_succ] at this; rw [cells_u8] at this; exact this
    have f3 : DataW.trod enc Try.prog W 0 (fun _ => true) held n' 4 [c3] = xs[3]? := by have := hf 3 _ rfl; simp only [List.getElem_toArray, List.getElem_cons_zero, List.getElem_cons_succ] at this; rw [cells_bool] at this; exact this
    rw [cells_int] at f0
    have some_of : ∀ {i : Nat} {o : Option (DataW H × List MemPlace)}, i < xs.length → o = xs[i]? → ∃ y, o = some y := fun {i o} hi e => ⟨xs[i], by rw [e, List.getElem?_eq_getElem hi]⟩
    have hxl : xs.length = 4 := by assumption
    obtain ⟨y0, e0⟩ := some_of (by omega) f0
    obtain ⟨y1, e1⟩ := some_of (by omega) f1
    obtain ⟨y2, e2⟩ := some_of (by omega) f2
    obtain ⟨y3, e3⟩ := some_of (by omega) f3
    simp only [List.take_succ_cons, List.take_zero] at e0
    obtain ⟨op, h0, _, w0⟩ := DataW.trod_int Try.underlying3 e0
    obtain ⟨at_, h1, _, w1⟩ := DataW.trod_int Try.underlying3 e1
    obtain ⟨b, h2, _, w2⟩ := DataW.trod_int Try.underlying5 e2
    obtain ⟨bd, h3, _⟩ := DataW.trod_bool Try.underlying4 e3
    simp only [List.cons.injEq, and_true] at h0 h1 h2 h3
    subst h0 h1 h2 h3
    exact ⟨⟨op, at_, b, bd⟩, ⟨wf_i64' w0, wf_i64' w1⟩, rfl⟩

theorem open_act {n : Nat} {a : Addr} {cs : List Value} {x : DataW H × List MemPlace} (hcs : W.cells? 0 a 4 = some cs) (h : DataW.trod enc Try.prog W 0 (fun _ => true) held n 37 cs = some x) :
    ∃ A : Act6, A.Ok ∧ ∀ j u, A.cells[j]? = some u → W.cell? (a.add j) = some u := by
  obtain ⟨_, hlen, hat⟩ := World.cells?_some hcs
  obtain ⟨A, hA, rfl⟩ := act_cells hlen h
  refine ⟨A, hA, fun j u hu => ?_⟩
  have hj : j < 4 := by
    have := (List.getElem?_eq_some_iff.1 hu).1
    simpa [Act6.cells] using this
  rw [hat j hj]
  exact hu

theorem open_acts {v : Value} {d : DataW H} {ps : List MemPlace} {r : Reach} {b0 : Nat} (hv : Value.okWide Try.prog W r b0 22 v) (h : DataW.Trod enc Try.prog W 0 (fun _ => true) held 22 v d ps) : ∃ L, Acts6 W v L := by
  obtain ⟨ao, len, cap, rfl⟩ := okWide_slice Try.underlying22 hv
  obtain ⟨fuel, hf⟩ := h
  have hf' : DataW.trod enc Try.prog W 0 (fun _ => true) held fuel 22 [.slice ao len cap] = some (d, ps) := by simpa [Value.cells] using hf
  rcases open_slice Try.underlying22 hf' with ⟨hcs, _⟩ | ⟨a, len', cap', m, n, D, Pl, hcs, _, hl, hm, hmm, _, hc⟩
  · simp only [List.cons.injEq, and_true] at hcs
    cases hcs
    refine ⟨[], ?_⟩
    show _ ∧ _ ∧ _
    exact ⟨(fun a ha => by cases ha), by simp, none, 0, rfl, (fun i hi => by cases hi)⟩
  · simp only [List.cons.injEq, and_true] at hcs
    cases hcs
    simp only [if_true] at hmm
    rw [cells_act] at hc
    obtain ⟨F, hF⟩ := choose_lt (α := Act6) (n := m) (p := fun i A => A.Ok ∧ ∀ j u, A.cells[j]? = some u → W.cell? (a.add (i * 4 + j)) = some u) (fun i hi => by
      obtain ⟨cs, h1, h2⟩ := hc i hi
      obtain ⟨A, hA, hcell⟩ := open_act h1 h2
      exact ⟨A, hA, fun j u hu => by rw [← add_add]; exact hcell j u hu⟩)
    refine ⟨(List.range len).map F, ?_, by unfold maxLen at hm; simp; omega, some a, cap, by simp, ?_⟩
    · intro A hA
      simp only [List.mem_map, List.mem_range] at hA
      obtain ⟨i, hi, rfl⟩ := hA
      exact (hF i (by omega)).1
    · intro i hi
      have hi' : i < len := by simpa using hi
      have h0 := (hF 0 (by omega)).2 0 _ rfl
      obtain ⟨g, o, hab⟩ := addr_plain h0
      have ha : a = ⟨g, o, none⟩ := by simpa [Addr.add] using hab
      subst ha
      rw [add_plain] at h0
      refine ⟨g, o, rfl, World.block_lt_of_cell? W _ h0, fun j u hu => ?_⟩
      have := (hF i (by omega)).2 j u (by simpa using hu)
      rw [add_plain, ← Nat.add_assoc] at this
      exact this
end
end Go.Proofs.Yteeoglfgilabaaa
