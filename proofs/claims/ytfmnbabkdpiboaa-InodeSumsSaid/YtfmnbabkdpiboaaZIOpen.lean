/- A slice of files that came in, read cell by cell: it says some list of files. -/
import Derived.Test.YtfmnbabkdpiboaaZLaw
import Derived.Test.YtfmnbabkdpiboaaZIBase
import Derived.SliceStrings
import Derived.Deep.Slices

namespace Go.Proofs.Ytfmnbabkdpiboaa
open Go.ChangeShapes Go.WideShapes Go.ChangeAt Go.RowKit Go.Deep

theorem wf_i64' {k : Int} (h : (Lit.int .i64 k).wf = true) : -9223372036854775808 ≤ k ∧ k ≤ 9223372036854775807 := by
  simpa [Lit.wf, IntKind.min, IntKind.max, IntKind.signed, IntKind.bits] using h
theorem addr_plain {w : World} {a : Addr} {v : Value} (h : w.cell? a = some v) : ∃ b off, a = ⟨b, off, none⟩ := by
  obtain ⟨b, off, spot⟩ := a
  unfold World.cell? at h
  split at h
  · cases spot with
    | none => exact ⟨b, off, rfl⟩
    | some s => simp at h
  · cases h
theorem cells_int : Try.prog.cellsOf 3 = 1 := by kernel_rfl
theorem cells_str : Try.prog.cellsOf 9 = 1 := by kernel_rfl
theorem cells_bool : Try.prog.cellsOf 4 = 1 := by kernel_rfl
theorem cells_ext : Try.prog.cellsOf 52 = 2 := by kernel_rfl
theorem cells_exts : Try.prog.cellsOf 48 = 1 := by kernel_rfl
theorem cells_file : Try.prog.cellsOf 50 = 4 := by kernel_rfl
instance : Inhabited Fl := ⟨⟨⟨#[]⟩, false, 0, []⟩⟩
/-- A slice of files that came in. -/
def FilesA (W : World) (v : Value) (L : List Fl) : Prop := SlF W v L ∧ L.length ≤ maxLen ∧ Nums64 L
/-- .. and is of no room where it is nil. -/
def FilesN (W : World) (v : Value) (L : List Fl) : Prop := FilesA W v L ∧ ∀ n c, v = .slice none n c → c = 0

section
variable {H : Type} {enc : TypeId × Value → H} {W : World} {held : Bool}
set_option maxRecDepth 100000 in
theorem ext_cells {n : Nat} {cs : List Value} {x : DataW H × List MemPlace} (hlen : cs.length = 2) (h : DataW.trod enc Try.prog W 0 (fun _ => true) held n 52 cs = some x) :
    ∃ p : Int × Int, (I64 p.1 ∧ I64 p.2) ∧ cs = [.int .i64 p.1, .int .i64 p.2] := by
  obtain ⟨xs, n', _, _, _, _, hf⟩ := DataW.trod_struct Try.underlying52 h
  match cs, hlen with
  | [c0, c1], _ =>
    have f0 : DataW.trod enc Try.prog W 0 (fun _ => true) held n' 3 ([c0].take (Try.prog.cellsOf 3)) = xs[0]? := by rw [cells_int]; have := hf 0 _ rfl; simp only [List.getElem_toArray, List.getElem_cons_zero] at this; rw [cells_int] at this; exact this
    have f1 : DataW.trod enc Try.prog W 0 (fun _ => true) held n' 3 [c1] = xs[1]? := by have := hf 1 _ rfl; simp only [List.getElem_toArray, List.getElem_cons_zero, List.getElem_cons_succ] at this; rw [cells_int] at this; exact this
    rw [cells_int] at f0
    have some_of : ∀ {i : Nat} {o : Option (DataW H × List MemPlace)}, i < xs.length → o = xs[i]? → ∃ y, o = some y := fun {i o} hi e => ⟨xs[i], by rw [e, List.getElem?_eq_getElem hi]⟩
    have hxl : xs.length = 2 := by assumption
    obtain ⟨y0, e0⟩ := some_of (by omega) f0
    obtain ⟨y1, e1⟩ := some_of (by omega) f1
    simp only [List.take_succ_cons, List.take_zero] at e0
    obtain ⟨bl, h0, _, w0⟩ := DataW.trod_int Try.underlying3 e0
    obtain ⟨s, h1, _, w1⟩ := DataW.trod_int Try.underlying3 e1
    simp only [List.cons.injEq, and_true] at h0 h1
    subst h0 h1
    exact ⟨(bl, s), ⟨wf_i64' w0, wf_i64' w1⟩, rfl⟩
set_option maxRecDepth 100000 in
theorem open_ext {n : Nat} {a : Addr} {cs : List Value} {x : DataW H × List MemPlace} (hcs : W.cells? 0 a 2 = some cs) (h : DataW.trod enc Try.prog W 0 (fun _ => true) held n 52 cs = some x) :
    ∃ p : Int × Int, (I64 p.1 ∧ I64 p.2) ∧ W.cell? (a.add 0) = some (.int .i64 p.1) ∧ W.cell? (a.add 1) = some (.int .i64 p.2) := by
  obtain ⟨_, hlen, hat⟩ := World.cells?_some hcs
  obtain ⟨p, hp, rfl⟩ := ext_cells hlen h
  exact ⟨p, hp, by rw [hat 0 (by omega)]; rfl, by rw [hat 1 (by omega)]; rfl⟩
set_option maxRecDepth 100000 in
theorem open_exts {n : Nat} {v : Value} {x : DataW H × List MemPlace} (h : DataW.trod enc Try.prog W 0 (fun _ => true) held n 48 [v] = some x) :
    ∃ L : List (Int × Int), SlE W v L ∧ ∀ p ∈ L, I64 p.1 ∧ I64 p.2 := by
  obtain ⟨d, ps⟩ := x
  have hv : ∃ ao len cap, v = .slice ao len cap := by
    rcases open_slice Try.underlying48 h with ⟨hcs, _⟩ | ⟨a, len', cap', m, n, D, Pl, hcs, _⟩
    · simp only [List.cons.injEq, and_true] at hcs; exact ⟨_, _, _, hcs⟩
    · simp only [List.cons.injEq, and_true] at hcs; exact ⟨_, _, _, hcs⟩
  obtain ⟨ao, len, cap, rfl⟩ := hv
  rcases open_slice Try.underlying48 h with ⟨hcs, _⟩ | ⟨a, len', cap', m, n, D, Pl, hcs, _, hl, hm, hmm, _, hc⟩
  · simp only [List.cons.injEq, and_true] at hcs
    cases hcs
    exact ⟨[], ⟨none, 0, rfl, Nat.le_refl _, .inl rfl⟩, (fun x hx => by cases hx)⟩
  · simp only [List.cons.injEq, and_true] at hcs
    cases hcs
    simp only [if_true] at hmm
    rw [cells_ext] at hc
    obtain ⟨F, hF⟩ := choose_lt (α := Int × Int) (n := m) (p := fun i p => (I64 p.1 ∧ I64 p.2) ∧ W.cell? (a.add (i * 2)) = some (.int .i64 p.1) ∧ W.cell? (a.add (i * 2 + 1)) = some (.int .i64 p.2)) (fun i hi => by
      obtain ⟨cs, h1, h2⟩ := hc i hi
      obtain ⟨p, hp, k0, k1⟩ := open_ext h1 h2
      rw [add_add] at k0 k1
      exact ⟨p, hp, k0, k1⟩)
    have hL : ((List.range len).map F).length = len := by simp
    refine ⟨(List.range len).map F, ⟨some a, cap, by rw [hL], by rw [hL]; exact hl, ?_⟩, ?_⟩
    · by_cases h0 : len = 0
      · left; subst h0; simp
      · right
        have hc0 := (hF 0 (by omega)).2.1
        obtain ⟨b, off, hab⟩ := addr_plain hc0
        have ha : a = ⟨b, off, none⟩ := by simpa [Addr.add] using hab
        subst ha
        rw [add_at] at hc0
        refine ⟨b, off, rfl, World.block_lt_of_cell? W _ hc0, fun i hi => ?_⟩
        have hi' : i < len := by rw [hL] at hi; exact hi
        have h1 := (hF i (by omega)).2.1
        have h2 := (hF i (by omega)).2.2
        rw [add_at] at h1 h2
        rw [← Nat.add_assoc] at h2
        simp only [List.getElem_map, List.getElem_range]
        exact ⟨h1, h2⟩
    · intro p hp
      simp only [List.mem_map, List.mem_range] at hp
      obtain ⟨i, hi, rfl⟩ := hp
      exact (hF i (by omega)).1
set_option maxRecDepth 100000 in
theorem file_cells {n : Nat} {cs : List Value} {x : DataW H × List MemPlace} (hlen : cs.length = 4) (h : DataW.trod enc Try.prog W 0 (fun _ => true) held n 50 cs = some x) :
    ∃ (f : Fl) (ve : Value), (f.name.size ≤ maxLen ∧ I64 f.size ∧ ∀ p ∈ f.ext, I64 p.1 ∧ I64 p.2) ∧ SlE W ve f.ext ∧ cs = [.string f.name, .bool f.shut, .int .i64 f.size, ve] := by
  obtain ⟨xs, n', _, _, _, _, hf⟩ := DataW.trod_struct Try.underlying50 h
  match cs, hlen with
  | [c0, c1, c2, c3], _ =>
    have f0 : DataW.trod enc Try.prog W 0 (fun _ => true) held n' 9 ([c0].take (Try.prog.cellsOf 9)) = xs[0]? := by rw [cells_str]; have := hf 0 _ rfl; simp only [List.getElem_toArray, List.getElem_cons_zero] at this; rw [cells_str] at this; exact this
    have f1 : DataW.trod enc Try.prog W 0 (fun _ => true) held n' 4 [c1] = xs[1]? := by have := hf 1 _ rfl; simp only [List.getElem_toArray, List.getElem_cons_zero, List.getElem_cons_succ] at this; rw [cells_bool] at this; exact this
    have f2 : DataW.trod enc Try.prog W 0 (fun _ => true) held n' 3 [c2] = xs[2]? := by have := hf 2 _ rfl; simp only [List.getElem_toArray, List.getElem_cons_zero, List.getElem_cons_succ] at this; rw [cells_int] at this; exact this
    have f3 : DataW.trod enc Try.prog W 0 (fun _ => true) held n' 48 [c3] = xs[3]? := by have := hf 3 _ rfl; simp only [List.getElem_toArray, List.getElem_cons_zero, List.getElem_cons_succ] at this; rw [cells_exts] at this; exact this
    rw [cells_str] at f0
    have some_of : ∀ {i : Nat} {o : Option (DataW H × List MemPlace)}, i < xs.length → o = xs[i]? → ∃ y, o = some y := fun {i o} hi e => ⟨xs[i], by rw [e, List.getElem?_eq_getElem hi]⟩
    have hxl : xs.length = 4 := by assumption
    obtain ⟨y0, e0⟩ := some_of (by omega) f0
    obtain ⟨y1, e1⟩ := some_of (by omega) f1
    obtain ⟨y2, e2⟩ := some_of (by omega) f2
    obtain ⟨y3, e3⟩ := some_of (by omega) f3
    simp only [List.take_succ_cons, List.take_zero] at e0
    obtain ⟨s, h0, _, w0⟩ := DataW.trod_string Try.underlying9 e0
    obtain ⟨b, h1, _⟩ := DataW.trod_bool Try.underlying4 e1
    obtain ⟨z, h2, _, w2⟩ := DataW.trod_int Try.underlying3 e2
    obtain ⟨E, hE, hE2⟩ := open_exts e3
    simp only [List.cons.injEq, and_true] at h0 h1 h2
    subst h0 h1 h2
    exact ⟨⟨s, b, z, E⟩, c3, ⟨w0, wf_i64' w2, hE2⟩, hE, rfl⟩
set_option maxRecDepth 100000 in
theorem open_file {n : Nat} {a : Addr} {cs : List Value} {x : DataW H × List MemPlace} (hcs : W.cells? 0 a 4 = some cs) (h : DataW.trod enc Try.prog W 0 (fun _ => true) held n 50 cs = some x) :
    ∃ f : Fl, (f.name.size ≤ maxLen ∧ I64 f.size ∧ ∀ p ∈ f.ext, I64 p.1 ∧ I64 p.2) ∧ ∃ ve, SlE W ve f.ext ∧ W.cell? (a.add 0) = some (.string f.name) ∧ W.cell? (a.add 1) = some (.bool f.shut) ∧ W.cell? (a.add 2) = some (.int .i64 f.size) ∧ W.cell? (a.add 3) = some ve := by
  obtain ⟨_, hlen, hat⟩ := World.cells?_some hcs
  obtain ⟨f, ve, hp, hE, rfl⟩ := file_cells hlen h
  exact ⟨f, hp, ve, hE, by rw [hat 0 (by omega)]; rfl, by rw [hat 1 (by omega)]; rfl, by rw [hat 2 (by omega)]; rfl, by rw [hat 3 (by omega)]; rfl⟩
set_option maxRecDepth 100000 in
theorem open_filesn {v : Value} {d : DataW H} {ps : List MemPlace} {r : Reach} {b0 : Nat} (hv : Value.okWide Try.prog W r b0 22 v) (h : DataW.Trod enc Try.prog W 0 (fun _ => true) held 22 v d ps) : ∃ L, FilesN W v L := by
  obtain ⟨ao, len, cap, rfl⟩ := okWide_slice Try.underlying22 hv
  obtain ⟨fuel, hf⟩ := h
  have hf' : DataW.trod enc Try.prog W 0 (fun _ => true) held fuel 22 [.slice ao len cap] = some (d, ps) := by simpa [Value.cells] using hf
  rcases open_slice Try.underlying22 hf' with ⟨hcs, _⟩ | ⟨a, len', cap', m, n, D, Pl, hcs, _, hl, hm, hmm, _, hc⟩
  · simp only [List.cons.injEq, and_true] at hcs
    cases hcs
    exact ⟨[], ⟨⟨none, 0, rfl, Nat.le_refl _, .inl rfl⟩, by simp, (fun x hx => by cases hx)⟩, (fun n c h => by cases h; rfl)⟩
  · simp only [List.cons.injEq, and_true] at hcs
    cases hcs
    simp only [if_true] at hmm
    rw [cells_file] at hc
    obtain ⟨F, hF⟩ := choose_lt (α := Fl) (n := m) (p := fun i f => (f.name.size ≤ maxLen ∧ I64 f.size ∧ ∀ p ∈ f.ext, I64 p.1 ∧ I64 p.2) ∧ ∃ ve, SlE W ve f.ext ∧ W.cell? (a.add (i * 4)) = some (.string f.name) ∧ W.cell? (a.add (i * 4 + 1)) = some (.bool f.shut) ∧ W.cell? (a.add (i * 4 + 2)) = some (.int .i64 f.size) ∧ W.cell? (a.add (i * 4 + 3)) = some ve) (fun i hi => by
      obtain ⟨cs, h1, h2⟩ := hc i hi
      obtain ⟨p, hp, ve, hE, k0, k1, k2, k3⟩ := open_file h1 h2
      rw [add_add] at k0 k1 k2 k3
      exact ⟨p, hp, ve, hE, k0, k1, k2, k3⟩)
    have hL : ((List.range len).map F).length = len := by simp
    refine ⟨(List.range len).map F, ⟨⟨some a, cap, by rw [hL], by rw [hL]; exact hl, ?_⟩, by rw [hL]; omega, ?_⟩, (fun n c h => by cases h)⟩
    · by_cases h0 : len = 0
      · left; subst h0; simp
      · right
        obtain ⟨_, ve0, _, hc0, _⟩ := hF 0 (by omega)
        obtain ⟨b, off, hab⟩ := addr_plain hc0
        have ha : a = ⟨b, off, none⟩ := by simpa [Addr.add] using hab
        subst ha
        rw [add_at] at hc0
        refine ⟨b, off, rfl, World.block_lt_of_cell? W _ hc0, fun i hi => ?_⟩
        have hi' : i < len := by rw [hL] at hi; exact hi
        obtain ⟨_, ve, hE, k0, k1, k2, k3⟩ := hF i (by omega)
        rw [add_at] at k0 k1 k2 k3
        rw [← Nat.add_assoc] at k1 k2 k3
        simp only [List.getElem_map, List.getElem_range]
        exact ⟨ve, k0, k1, k2, k3, hE⟩
    · intro f hf
      simp only [List.mem_map, List.mem_range] at hf
      obtain ⟨i, hi, rfl⟩ := hf
      obtain ⟨h1, h2, h3⟩ := (hF i (by omega)).1
      exact ⟨by unfold maxLen at h1; omega, h2, h3⟩
set_option maxRecDepth 100000 in
theorem open_files {v : Value} {d : DataW H} {ps : List MemPlace} {r : Reach} {b0 : Nat} (hv : Value.okWide Try.prog W r b0 22 v) (h : DataW.Trod enc Try.prog W 0 (fun _ => true) held 22 v d ps) : ∃ L, FilesA W v L := by
  obtain ⟨L, h, _⟩ := open_filesn hv h
  exact ⟨L, h⟩
end
end Go.Proofs.Ytfmnbabkdpiboaa
