/- Rows of extents of one's own; slices of extents as what is there to be read. -/
import Derived.Test.YtlhhmdpfggefgaaMRefs
namespace Go.Proofs.Ytlhhmdpfggefgaa
open Go.RowKit

def flatX : List (Nat × Nat) → List Value
  | [] => []
  | x :: r => .int .i64 ((x.1 : Nat) : Int) :: .int .i64 ((x.2 : Nat) : Int) :: flatX r
theorem flatX_length (l : List (Nat × Nat)) : (flatX l).length = l.length * 2 := by
  induction l with
  | nil => rfl
  | cons x r ih => simp [flatX, ih]; omega
theorem flatX_append (l m : List (Nat × Nat)) : flatX (l ++ m) = flatX l ++ flatX m := by
  induction l with
  | nil => rfl
  | cons x r ih => simp [flatX, ih]
theorem flatX_fst (l : List (Nat × Nat)) (i : Nat) (h : i < l.length) : (flatX l)[i * 2]? = some (.int .i64 ((l[i].1 : Nat) : Int)) := by
  induction l generalizing i with
  | nil => cases h
  | cons x r ih =>
    cases i with
    | zero => rfl
    | succ j =>
      have e : (j + 1) * 2 = j * 2 + 1 + 1 := by omega
      rw [e]; simpa [flatX] using ih j (by simpa using h)
theorem flatX_snd (l : List (Nat × Nat)) (i : Nat) (h : i < l.length) : (flatX l)[i * 2 + 1]? = some (.int .i64 ((l[i].2 : Nat) : Int)) := by
  induction l generalizing i with
  | nil => cases h
  | cons x r ih =>
    cases i with
    | zero => rfl
    | succ j =>
      have e : (j + 1) * 2 + 1 = j * 2 + 1 + 1 + 1 := by omega
      rw [e]; simpa [flatX] using ih j (by simpa using h)
theorem flatX_last (l : List (Nat × Nat)) (s c d : Nat) : (flatX (l ++ [(s, c)])).set (l.length * 2 + 1) (.int .i64 ((d : Nat) : Int)) = flatX (l ++ [(s, d)]) := by
  rw [flatX_append, flatX_append, List.set_append_right _ _ (by rw [flatX_length]; omega), flatX_length, show l.length * 2 + 1 - l.length * 2 = 1 by omega]
  rfl

def ExtsAt (w : World) (b off : Nat) (L : List (Nat × Nat)) : Prop := ∀ j (h : j < L.length), w.cell? ⟨b, off + j * 2, none⟩ = some (.int .i64 ((L[j].1 : Nat) : Int)) ∧ w.cell? ⟨b, off + j * 2 + 1, none⟩ = some (.int .i64 ((L[j].2 : Nat) : Int))
def SlX (w : World) (v : Value) (L : List (Nat × Nat)) : Prop := ∃ ao c, v = .slice ao L.length c ∧ (L = [] ∨ ∃ b off, ao = some ⟨b, off, none⟩ ∧ b < w.heap.size ∧ ExtsAt w b off L)
theorem SlX.here {w : World} {v : Value} {L : List (Nat × Nat)} (h : SlX w v L) (h0 : 0 < L.length) : ∃ b off c, v = .slice (some ⟨b, off, none⟩) L.length c ∧ b < w.heap.size ∧ ExtsAt w b off L := by
  obtain ⟨ao, c, hv, h⟩ := h
  rcases h with h | ⟨b, off, rfl, hb, h⟩
  · subst h; simp at h0
  · exact ⟨b, off, c, hv, hb, h⟩
theorem SlX.below {w w' : World} {v : Value} {L : List (Nat × Nat)} (h : SlX w v L) (hb : Below w.heap.size w w') : SlX w' v L := by
  obtain ⟨ao, c, hv, h⟩ := h
  refine ⟨ao, c, hv, ?_⟩
  rcases h with h | ⟨b, off, e, hlt, h⟩
  · exact .inl h
  · exact .inr ⟨b, off, e, Nat.lt_of_lt_of_le hlt hb.size, fun j hj => ⟨(hb.cell (p := ⟨b, off + j * 2, none⟩) hlt).trans (h j hj).1, (hb.cell (p := ⟨b, off + j * 2 + 1, none⟩) hlt).trans (h j hj).2⟩⟩

/-- A row of extents of one's own: in blocks from B on. -/
def OwnX (B : Nat) (w : World) (v : Value) (L : List (Nat × Nat)) : Prop := w.ownsRow B 36 2 v L.length (flatX L)
theorem own_below {B : Nat} {e : TypeId} {k : Nat} {v : Value} {n : Nat} {xs : List Value} {w w' : World} (h : w.ownsRow B e k v n xs) (hb : Below w.heap.size w w') : w'.ownsRow B e k v n xs := by
  refine ⟨h.1, ?_⟩
  rcases h.2 with hn | ⟨g, cap, cur, rfl, hbg, hg, rest⟩
  · exact .inl hn
  · exact .inr ⟨g, cap, cur, rfl, hbg, by rw [hb.block g (Array.getElem?_eq_some_iff.1 hg).1]; exact hg, rest⟩
theorem OwnX.below {B : Nat} {w w' : World} {v : Value} {L : List (Nat × Nat)} (h : OwnX B w v L) (hb : Below w.heap.size w w') : OwnX B w' v L := own_below h hb
theorem OwnX.nil (B : Nat) (w : World) : OwnX B w (.slice none 0 0) [] := World.ownsRow_nil _ _ _ _
theorem OwnX.here {B : Nat} {w : World} {v : Value} {L : List (Nat × Nat)} (h : OwnX B w v L) (h0 : 0 < L.length) : ∃ g c, v = .slice (some ⟨g, 0, none⟩) L.length c ∧ L.length ≤ c ∧ B ≤ g ∧ g < w.heap.size ∧ ExtsAt w g 0 L ∧ ∀ j, w.frozen? ⟨g, j, none⟩ = false := by
  have hO := h
  rcases h.2 with ⟨_, hn⟩ | ⟨g, cap, cur, rfl, hbg, hg, hc, _⟩
  · omega
  · refine ⟨g, cap, rfl, hc, hbg, (Array.getElem?_eq_some_iff.1 hg).1, fun j hj => ?_, fun j => World.ownsRow.frozenAt hO j⟩
    rw [Nat.zero_add, World.ownsRow.cellAt hO (j * 2) (by omega), World.ownsRow.cellAt hO (j * 2 + 1) (by omega)]
    exact ⟨flatX_fst L j hj, flatX_snd L j hj⟩
theorem OwnX.sl {B : Nat} {w : World} {v : Value} {L : List (Nat × Nat)} (h : OwnX B w v L) : SlX w v L := by
  by_cases h0 : 0 < L.length
  · obtain ⟨g, c, hv, hc, _, hg, hs, _⟩ := h.here h0
    exact ⟨_, c, hv, .inr ⟨g, 0, rfl, hg, hs⟩⟩
  · have e : L = [] := List.eq_nil_of_length_eq_zero (by omega)
    subst e
    rcases h.2 with ⟨hv, _⟩ | ⟨g, cap, cur, hv, _⟩
    · exact ⟨_, 0, hv, .inl rfl⟩
    · exact ⟨_, cap, hv, .inl rfl⟩
theorem OwnX.form {B : Nat} {w : World} {v : Value} {L : List (Nat × Nat)} (h : OwnX B w v L) : ∃ ao c, v = .slice ao L.length c := by
  obtain ⟨ao, c, hv, _⟩ := h.sl
  exact ⟨ao, c, hv⟩
/-- The last extent, and what it is behind a store. -/
theorem OwnX.last {B : Nat} {w : World} {v : Value} {L : List (Nat × Nat)} {s c : Nat} (h : OwnX B w v (L ++ [(s, c)])) : ∃ g cap, v = .slice (some ⟨g, 0, none⟩) (L.length + 1) cap ∧ B ≤ g ∧ w.cell? ⟨g, L.length * 2 + 1, none⟩ = some (.int .i64 (c : Int)) ∧ w.frozen? ⟨g, L.length * 2 + 1, none⟩ = false ∧
    OwnX B (w.setCell ⟨g, L.length * 2 + 1, none⟩ (.int .i64 ((c : Int) + 1))) v (L ++ [(s, c + 1)]) := by
  obtain ⟨g, cap, hv, hc, hB, hg, ha, hf⟩ := h.here (by simp)
  subst hv
  have hst := (World.ownsRow.stored h (L.length * 2 + 1) (.int .i64 ((c : Int) + 1))).1
  refine ⟨g, cap, by simp, hB, ?_, hf _, ?_⟩
  · have := (ha L.length (by simp)).2
    simpa using this
  · unfold OwnX
    rw [← flatX_last L s c (c + 1)]
    simpa using hst
theorem OwnX.push {B : Nat} {w1 : World} {v1 : Value} {M : List (Nat × Nat)} {s c : Nat} (hown : w1.ownsRow B 36 2 v1 (M.length + 1) (flatX M ++ [.int .i64 (s : Int), .int .i64 (c : Int)])) : OwnX B w1 v1 (M ++ [(s, c)]) := by
  unfold OwnX
  rw [List.length_append, flatX_append]
  exact hown
theorem add_at (b off j : Nat) : (⟨b, off, none⟩ : Addr).add j = ⟨b, off + j, none⟩ := by unfold Addr.add; split <;> simp_all
theorem cell_at {w : World} {b : Nat} {vs : Array Value} {e : TypeId} {m : Nat × Nat} (h : w.heap[b]? = some (.cells vs e m)) (k : Nat) : w.cell? ⟨b, k, none⟩ = vs[k]? := by
  simp [World.cell?, h]
theorem two_cells {w : World} {t : TypeId} {i s : Int} {g : Nat} (hg : w.heap.size = g) : ∀ (j : Nat) (u : Value), [Value.int .i64 i, Value.int .i64 s][j]? = some u → (w.alloc (.cells #[.int .i64 i, .int .i64 s] t)).cell? ((⟨g, 0, none⟩ : Addr).add j) = some u := by
  subst hg
  intro j u hu
  rw [add_at, Nat.zero_add, cell_at (heap_alloc_new ..)]
  rw [← hu]; simp
theorem two_one {i s : Int} : ∀ u ∈ [Value.int .i64 i, Value.int .i64 s], u.oneCell' = true := by
  intro u hu
  simp only [List.mem_cons, List.not_mem_nil, or_false] at hu
  rcases hu with rfl | rfl <;> rfl
theorem _root_.Go.Proofs.Try.infoX : (Try.prog.info? 36).map (fun i => (i.zero, i.size, i.bytes)) = some (some (.agg #[.int .i64 0, .int .i64 0]), 2, 16) := by kernel_rfl
end Go.Proofs.Ytlhhmdpfggefgaa
