/- Slices of texts and of writes in memory, as what is there to be read; rows of one's own; an append, and where the row lies behind it: nothing of the program is walked here. -/
import Derived.Test.YtodfcbpimglhdaaFMath
import Derived.OneCell
import Derived.Test.YtodfcbpimglhdaaNewD
namespace Go.Proofs.Ytodfcbpimglhdaa.Fr
open Go.RowKit

/-- The cells of a row of writes. -/
def flatI : List (Int × ByteArray) → List Value
  | [] => []
  | x :: r => .int .i64 x.1 :: .string x.2 :: flatI r
theorem flatI_length (l : List (Int × ByteArray)) : (flatI l).length = l.length * 2 := by
  induction l with
  | nil => rfl
  | cons x r ih => simp [flatI, ih]; omega
theorem flatI_append (l m : List (Int × ByteArray)) : flatI (l ++ m) = flatI l ++ flatI m := by
  induction l with
  | nil => rfl
  | cons x r ih => simp [flatI, ih]
theorem flatI_fst (l : List (Int × ByteArray)) (i : Nat) (h : i < l.length) : (flatI l)[i * 2]? = some (.int .i64 (l[i]).1) := by
  induction l generalizing i with
  | nil => cases h
  | cons x r ih =>
    cases i with
    | zero => rfl
    | succ j =>
      have e : (j + 1) * 2 = j * 2 + 1 + 1 := by omega
      rw [e]; simpa [flatI] using ih j (by simpa using h)
theorem flatI_snd (l : List (Int × ByteArray)) (i : Nat) (h : i < l.length) : (flatI l)[i * 2 + 1]? = some (.string (l[i]).2) := by
  induction l generalizing i with
  | nil => cases h
  | cons x r ih =>
    cases i with
    | zero => rfl
    | succ j =>
      have e : (j + 1) * 2 + 1 = j * 2 + 1 + 1 + 1 := by omega
      rw [e]; simpa [flatI] using ih j (by simpa using h)
theorem flatI_one (l : List (Int × ByteArray)) : ∀ u ∈ flatI l, u.oneCell' = true := by
  induction l with
  | nil => intro u h; cases h
  | cons x r ih =>
    intro u h
    simp only [flatI, List.mem_cons] at h
    rcases h with rfl | rfl | h
    · rfl
    · rfl
    · exact ih u h
theorem flatI_set_snd (l : List (Int × ByteArray)) (i : Nat) (h : i < l.length) (s : ByteArray) : (flatI l).set (i * 2 + 1) (.string s) = flatI (l.set i (l[i].1, s)) := by
  induction l generalizing i with
  | nil => cases h
  | cons x r ih =>
    cases i with
    | zero => rfl
    | succ j =>
      have e : (j + 1) * 2 + 1 = j * 2 + 1 + 1 + 1 := by omega
      rw [e]
      have := ih j (by simpa using h)
      simp only [flatI, List.set_cons_succ, List.getElem_cons_succ]
      rw [this]

theorem add_at (b off j : Nat) : (⟨b, off, none⟩ : Addr).add j = ⟨b, off + j, none⟩ := by unfold Addr.add; split <;> simp_all

/-- Texts, and writes, at a place. -/
def StrsAt (w : World) (b off : Nat) (L : List ByteArray) : Prop := ∀ j (h : j < L.length), w.cell? ⟨b, off + j, none⟩ = some (.string L[j])
def WritesAt (w : World) (b off : Nat) (L : List (Int × ByteArray)) : Prop := ∀ j (h : j < L.length), w.cell? ⟨b, off + j * 2, none⟩ = some (.int .i64 L[j].1) ∧ w.cell? ⟨b, off + j * 2 + 1, none⟩ = some (.string L[j].2)
/-- Slices that read as lists. -/
def SlS (w : World) (v : Value) (L : List ByteArray) : Prop := ∃ ao c, v = .slice ao L.length c ∧ L.length ≤ c ∧ (L = [] ∨ ∃ b off, ao = some ⟨b, off, none⟩ ∧ b < w.heap.size ∧ StrsAt w b off L)
def SlW (w : World) (v : Value) (L : List (Int × ByteArray)) : Prop := ∃ ao c, v = .slice ao L.length c ∧ L.length ≤ c ∧ (L = [] ∨ ∃ b off, ao = some ⟨b, off, none⟩ ∧ b < w.heap.size ∧ WritesAt w b off L)
theorem SlS.here {w : World} {v : Value} {L : List ByteArray} (h : SlS w v L) (h0 : 0 < L.length) : ∃ b off c, v = .slice (some ⟨b, off, none⟩) L.length c ∧ L.length ≤ c ∧ b < w.heap.size ∧ StrsAt w b off L := by
  obtain ⟨ao, c, hv, hc, h⟩ := h
  rcases h with h | ⟨b, off, rfl, hb, h⟩
  · subst h; simp at h0
  · exact ⟨b, off, c, hv, hc, hb, h⟩
theorem SlW.here {w : World} {v : Value} {L : List (Int × ByteArray)} (h : SlW w v L) (h0 : 0 < L.length) : ∃ b off c, v = .slice (some ⟨b, off, none⟩) L.length c ∧ L.length ≤ c ∧ b < w.heap.size ∧ WritesAt w b off L := by
  obtain ⟨ao, c, hv, hc, h⟩ := h
  rcases h with h | ⟨b, off, rfl, hb, h⟩
  · subst h; simp at h0
  · exact ⟨b, off, c, hv, hc, hb, h⟩
theorem StrsAt.below {w w' : World} {b off : Nat} {L : List ByteArray} {B : Nat} (h : StrsAt w b off L) (hb : Below B w w') (hB : b < B) : StrsAt w' b off L :=
  fun j hj => (hb.cell (p := ⟨b, off + j, none⟩) hB).trans (h j hj)
theorem WritesAt.below {w w' : World} {b off : Nat} {L : List (Int × ByteArray)} {B : Nat} (h : WritesAt w b off L) (hb : Below B w w') (hB : b < B) : WritesAt w' b off L :=
  fun j hj => ⟨(hb.cell (p := ⟨b, off + j * 2, none⟩) hB).trans (h j hj).1, (hb.cell (p := ⟨b, off + j * 2 + 1, none⟩) hB).trans (h j hj).2⟩
theorem SlS.below {w w' : World} {v : Value} {L : List ByteArray} (h : SlS w v L) (hb : Below w.heap.size w w') : SlS w' v L := by
  obtain ⟨ao, c, hv, hc, h⟩ := h
  refine ⟨ao, c, hv, hc, ?_⟩
  rcases h with h | ⟨b, off, e, hlt, h⟩
  · exact .inl h
  · exact .inr ⟨b, off, e, Nat.lt_of_lt_of_le hlt hb.size, h.below hb hlt⟩
theorem SlW.below {w w' : World} {v : Value} {L : List (Int × ByteArray)} (h : SlW w v L) (hb : Below w.heap.size w w') : SlW w' v L := by
  obtain ⟨ao, c, hv, hc, h⟩ := h
  refine ⟨ao, c, hv, hc, ?_⟩
  rcases h with h | ⟨b, off, e, hlt, h⟩
  · exact .inl h
  · exact .inr ⟨b, off, e, Nat.lt_of_lt_of_le hlt hb.size, h.below hb hlt⟩

/-- Rows of texts, and of writes, of one's own: in blocks from B on. -/
def OwnS (B : Nat) (w : World) (v : Value) (L : List ByteArray) : Prop := w.ownsRow B 9 1 v L.length (L.map Value.string)
def OwnW (B : Nat) (w : World) (v : Value) (L : List (Int × ByteArray)) : Prop := w.ownsRow B 71 2 v L.length (flatI L)
theorem own_below {B : Nat} {e : TypeId} {k : Nat} {v : Value} {n : Nat} {xs : List Value} {w w' : World} (h : w.ownsRow B e k v n xs) (hb : Below w.heap.size w w') : w'.ownsRow B e k v n xs := by
  refine ⟨h.1, ?_⟩
  rcases h.2 with hn | ⟨g, cap, cur, rfl, hbg, hg, rest⟩
  · exact .inl hn
  · exact .inr ⟨g, cap, cur, rfl, hbg, by rw [hb.block g (Array.getElem?_eq_some_iff.1 hg).1]; exact hg, rest⟩
theorem own_mono {w : World} {base base' : Nat} {e : TypeId} {size : Nat} {v : Value} {n : Nat} {xs : List Value} (h : w.ownsRow base e size v n xs) (hb : base' ≤ base) : w.ownsRow base' e size v n xs := by
  refine ⟨h.1, ?_⟩
  rcases h.2 with hn | ⟨g, cap, cur, rfl, hbg, rest⟩
  · exact .inl hn
  · exact .inr ⟨g, cap, cur, rfl, Nat.le_trans hb hbg, rest⟩
theorem OwnS.below {B : Nat} {w w' : World} {v : Value} {L : List ByteArray} (h : OwnS B w v L) (hb : Below w.heap.size w w') : OwnS B w' v L := own_below h hb
theorem OwnW.below {B : Nat} {w w' : World} {v : Value} {L : List (Int × ByteArray)} (h : OwnW B w v L) (hb : Below w.heap.size w w') : OwnW B w' v L := own_below h hb
theorem OwnS.mono {B B' : Nat} {w : World} {v : Value} {L : List ByteArray} (h : OwnS B w v L) (hb : B' ≤ B) : OwnS B' w v L := own_mono h hb
theorem OwnW.mono {B B' : Nat} {w : World} {v : Value} {L : List (Int × ByteArray)} (h : OwnW B w v L) (hb : B' ≤ B) : OwnW B' w v L := own_mono h hb
theorem OwnS.nil (B : Nat) (w : World) : OwnS B w (.slice none 0 0) [] := World.ownsRow_nil _ _ _ _
theorem OwnW.nil (B : Nat) (w : World) : OwnW B w (.slice none 0 0) [] := World.ownsRow_nil _ _ _ _
theorem OwnS.here {B : Nat} {w : World} {v : Value} {L : List ByteArray} (h : OwnS B w v L) (h0 : 0 < L.length) : ∃ g c, v = .slice (some ⟨g, 0, none⟩) L.length c ∧ L.length ≤ c ∧ B ≤ g ∧ g < w.heap.size ∧ StrsAt w g 0 L ∧ ∀ j, w.frozen? ⟨g, j, none⟩ = false := by
  have hO := h
  rcases h.2 with ⟨_, hn⟩ | ⟨g, cap, cur, rfl, hbg, hg, hc, _⟩
  · omega
  · refine ⟨g, cap, rfl, hc, hbg, (Array.getElem?_eq_some_iff.1 hg).1, fun j hj => ?_, fun j => World.ownsRow.frozenAt hO j⟩
    rw [Nat.zero_add, World.ownsRow.cellAt hO j (by omega)]
    simp [hj]
theorem OwnW.here {B : Nat} {w : World} {v : Value} {L : List (Int × ByteArray)} (h : OwnW B w v L) (h0 : 0 < L.length) : ∃ g c, v = .slice (some ⟨g, 0, none⟩) L.length c ∧ L.length ≤ c ∧ B ≤ g ∧ g < w.heap.size ∧ WritesAt w g 0 L ∧ ∀ j, w.frozen? ⟨g, j, none⟩ = false := by
  have hO := h
  rcases h.2 with ⟨_, hn⟩ | ⟨g, cap, cur, rfl, hbg, hg, hc, _⟩
  · omega
  · refine ⟨g, cap, rfl, hc, hbg, (Array.getElem?_eq_some_iff.1 hg).1, fun j hj => ?_, fun j => World.ownsRow.frozenAt hO j⟩
    rw [Nat.zero_add, World.ownsRow.cellAt hO (j * 2) (by omega), World.ownsRow.cellAt hO (j * 2 + 1) (by omega)]
    exact ⟨flatI_fst L j hj, flatI_snd L j hj⟩
theorem OwnS.sl {B : Nat} {w : World} {v : Value} {L : List ByteArray} (h : OwnS B w v L) : SlS w v L := by
  by_cases h0 : 0 < L.length
  · obtain ⟨g, c, hv, hc, _, hg, hs, _⟩ := h.here h0
    exact ⟨_, c, hv, hc, .inr ⟨g, 0, rfl, hg, hs⟩⟩
  · have e : L = [] := List.eq_nil_of_length_eq_zero (by omega)
    subst e
    rcases h.2 with ⟨hv, _⟩ | ⟨g, cap, cur, hv, _⟩
    · exact ⟨_, 0, hv, Nat.le_refl _, .inl rfl⟩
    · exact ⟨_, cap, hv, Nat.zero_le _, .inl rfl⟩
theorem OwnW.sl {B : Nat} {w : World} {v : Value} {L : List (Int × ByteArray)} (h : OwnW B w v L) : SlW w v L := by
  by_cases h0 : 0 < L.length
  · obtain ⟨g, c, hv, hc, _, hg, hs, _⟩ := h.here h0
    exact ⟨_, c, hv, hc, .inr ⟨g, 0, rfl, hg, hs⟩⟩
  · have e : L = [] := List.eq_nil_of_length_eq_zero (by omega)
    subst e
    rcases h.2 with ⟨hv, _⟩ | ⟨g, cap, cur, hv, _⟩
    · exact ⟨_, 0, hv, Nat.le_refl _, .inl rfl⟩
    · exact ⟨_, cap, hv, Nat.zero_le _, .inl rfl⟩
/-- A store into a row of one's own. -/
theorem OwnS.store {B : Nat} {w : World} {g c : Nat} {L : List ByteArray} (h : OwnS B w (.slice (some ⟨g, 0, none⟩) L.length c) L) (j : Nat) (s : ByteArray) : OwnS B (w.setCell ⟨g, j, none⟩ (.string s)) (.slice (some ⟨g, 0, none⟩) L.length c) (L.set j s) := by
  have := (World.ownsRow.stored h j (.string s)).1
  unfold OwnS
  rw [List.length_set, List.map_set]
  exact this
theorem OwnW.storeD {B : Nat} {w : World} {g c : Nat} {L : List (Int × ByteArray)} (h : OwnW B w (.slice (some ⟨g, 0, none⟩) L.length c) L) (j : Nat) (hj : j < L.length) (s : ByteArray) : OwnW B (w.setCell ⟨g, j * 2 + 1, none⟩ (.string s)) (.slice (some ⟨g, 0, none⟩) L.length c) (L.set j (L[j].1, s)) := by
  have := (World.ownsRow.stored h (j * 2 + 1) (.string s)).1
  unfold OwnW
  rw [List.length_set, ← flatI_set_snd L j hj]
  exact this

theorem _root_.Go.Proofs.Try.infoI : (Try.prog.info? 3).map (fun i => (i.zero, i.size, i.bytes)) = some (some (.int .i64 0), 1, 8) := by kernel_rfl
theorem _root_.Go.Proofs.Try.infoB : (Try.prog.info? 5).map (fun i => (i.zero, i.size, i.bytes)) = some (some (.int .u8 0), 1, 1) := by kernel_rfl
end Go.Proofs.Ytodfcbpimglhdaa.Fr
