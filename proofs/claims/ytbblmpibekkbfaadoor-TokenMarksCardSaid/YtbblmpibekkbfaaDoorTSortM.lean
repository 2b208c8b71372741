/- Terms, sorted by the library and each taken once, are the document's. -/
import Derived.Test.YtbblmpibekkbfaaDoorTRise
import Derived.Lib.SlicesCompact
import Derived.Sort.Walk0
namespace Go.Proofs.YtbblmpibekkbfaaDoor
open Go.RowKit

theorem mem_insT (o : List ByteArray) (t x : ByteArray) : x ∈ insT o t ↔ x ∈ o ∨ x = t := by
  unfold insT
  split
  · rename_i h
    have := List.mem_of_getElem? h
    constructor
    · exact .inl
    · rintro (h | rfl)
      · exact h
      · exact this
  · rw [List.mem_append, List.mem_cons]
    constructor
    · rintro (h | rfl | h)
      · exact .inl (List.mem_of_mem_take h)
      · exact .inr rfl
      · exact .inl (List.mem_of_mem_drop h)
    · rintro (h | rfl)
      · rw [← List.take_append_drop (posT o t) o, List.mem_append] at h
        rcases h with h | h
        · exact .inl h
        · exact .inr (.inr h)
      · exact .inr (.inl rfl)
theorem mem_insAll (l : List ByteArray) (x : ByteArray) : ∀ o : List ByteArray, x ∈ l.foldl insT o ↔ x ∈ o ∨ x ∈ l := by
  induction l with
  | nil => intro o; simp
  | cons t l ih =>
    intro o
    rw [List.foldl_cons, ih, mem_insT, List.mem_cons, or_assoc]
theorem rise_insAll (l : List ByteArray) : RiseT (l.foldl insT []) := by
  have := termsL_rise (l.map fun t => (t, 0))
  unfold termsL at this
  rw [List.map_map] at this
  have e : (fun x : ByteArray × Int => x.1) ∘ (fun t : ByteArray => (t, (0 : Int))) = id := rfl
  rw [e, List.map_id] at this
  exact this
/-- Two rows that rise and have the same terms are the same. -/
theorem rise_same : ∀ (a b : List (List UInt8)), a.Pairwise (fun x y => Op.bytesLess x y = true) → b.Pairwise (fun x y => Op.bytesLess x y = true) → (∀ x, x ∈ a ↔ x ∈ b) → a = b
  | [], [], _, _, _ => rfl
  | [], y :: b, _, _, h => absurd ((h y).2 (by simp)) (by simp)
  | x :: a, [], _, _, h => absurd ((h x).1 (by simp)) (by simp)
  | x :: a, y :: b, ha, hb, h => by
    obtain ⟨ha1, ha2⟩ := List.pairwise_cons.1 ha
    obtain ⟨hb1, hb2⟩ := List.pairwise_cons.1 hb
    have hxy : x = y := by
      rcases List.mem_cons.1 ((h x).1 (by simp)) with e | hx
      · exact e
      · rcases List.mem_cons.1 ((h y).2 (by simp)) with e | hy
        · exact e.symm
        · have := blT_trans _ _ _ (ha1 y hy) (hb1 x hx)
          rw [blT_irr] at this
          cases this
    subst hxy
    have no : ∀ (c : List (List UInt8)), (∀ z ∈ c, Op.bytesLess x z = true) → x ∉ c := fun c hc hx => by
      have := hc x hx
      rw [blT_irr] at this
      cases this
    rw [rise_same a b ha2 hb2 fun z => ?_]
    have hz := h z
    rw [List.mem_cons, List.mem_cons] at hz
    constructor
    · intro hm
      rcases hz.1 (.inr hm) with rfl | h'
      · exact absurd hm (no a ha1)
      · exact h'
    · intro hm
      rcases hz.2 (.inr hm) with rfl | h'
      · exact absurd hm (no b hb1)
      · exact h'
theorem le_less (x y : List UInt8) : decide (x ≤ y) = !Op.bytesLess y x := by
  rw [bytesLess_eq]
  by_cases h : y < x
  · rw [decide_eq_true h, decide_eq_false (fun h' => h' h)]; rfl
  · rw [decide_eq_false h, decide_eq_true (show x ≤ y from h)]; rfl
/-- Compact of a row that does not fall: it rises, and has the same elements. -/
theorem compact_upTo (d : Array (List UInt8)) (hd : ∀ i j, i < j → j < d.size → Op.bytesLess d[j]! d[i]! = false) : ∀ m, m ≤ d.size →
    (Lib.compactUpTo d m).Pairwise (fun x y => Op.bytesLess x y = true) ∧ ∀ x, x ∈ Lib.compactUpTo d m ↔ ∃ j, j < m ∧ d[j]! = x
  | 0, _ => by
    refine ⟨by simp [Lib.compactUpTo], fun x => ⟨fun h => by simp [Lib.compactUpTo] at h, ?_⟩⟩
    rintro ⟨j, hj, _⟩
    omega
  | m + 1, hm => by
    obtain ⟨h1, h2⟩ := compact_upTo d hd m (by omega)
    rw [Lib.compactUpTo_succ]
    by_cases hk : Lib.keeps d m = true
    · rw [if_pos hk]
      have hk' : m = 0 ∨ d[m]! ≠ d[m - 1]! := by simpa [Lib.keeps] using hk
      refine ⟨List.pairwise_append.2 ⟨h1, List.pairwise_singleton .., fun a ha b hb => ?_⟩, fun x => ?_⟩
      · rw [List.mem_singleton] at hb
        subst hb
        obtain ⟨j, hj, rfl⟩ := (h2 a).1 ha
        cases e : Op.bytesLess d[j]! d[m]! with
        | true => rfl
        | false =>
          have hjm := blT_total _ _ e (hd j m hj (by omega))
          have h0 : m ≠ 0 := by omega
          rcases hk' with h | h
          · exact absurd h h0
          · exfalso
            apply h
            rcases Nat.lt_or_ge j (m - 1) with hlt | hge
            · cases e2 : Op.bytesLess d[m - 1]! d[m]! with
              | false => exact (blT_total _ _ e2 (hd (m - 1) m (by omega) (by omega))).symm
              | true =>
                rw [← hjm] at e2
                have := hd j (m - 1) hlt (by omega)
                rw [this] at e2
                cases e2
            · rw [show m - 1 = j by omega]; exact hjm.symm
      · rw [List.mem_append, h2, List.mem_singleton]
        constructor
        · rintro (⟨j, hj, e⟩ | rfl)
          · exact ⟨j, by omega, e⟩
          · exact ⟨m, by omega, rfl⟩
        · rintro ⟨j, hj, e⟩
          by_cases hjm : j = m
          · subst hjm; exact .inr e.symm
          · exact .inl ⟨j, by omega, e⟩
    · rw [if_neg hk, List.append_nil]
      have hk' : ¬ (m = 0 ∨ d[m]! ≠ d[m - 1]!) := by simpa [Lib.keeps] using hk
      refine ⟨h1, fun x => ?_⟩
      rw [h2]
      constructor
      · rintro ⟨j, hj, e⟩
        exact ⟨j, by omega, e⟩
      · rintro ⟨j, hj, e⟩
        by_cases hjm : j = m
        · subst hjm
          have hm0 : j ≠ 0 := fun h => hk' (.inl h)
          have he : d[j]! = d[j - 1]! := Classical.byContradiction fun h => hk' (.inr h)
          exact ⟨j - 1, by omega, by rw [← he, e]⟩
        · exact ⟨j, by omega, e⟩
theorem terms_sorted (l : List ByteArray) : Lib.compact ((l.map (·.data.toList)).mergeSort fun x y => decide (x ≤ y)) = (l.foldl insT []).map (·.data.toList) := by
  obtain ⟨z, hz⟩ : ∃ z, (l.map (·.data.toList)).mergeSort (fun x y => decide (x ≤ y)) = z := ⟨_, rfl⟩
  have hp : z.Perm (l.map (·.data.toList)) := by rw [← hz]; exact List.mergeSort_perm _ _
  have hs : z.Pairwise (fun x y => decide (x ≤ y) = true) := by
    rw [← hz]
    refine List.pairwise_mergeSort (fun a b c h1 h2 => ?_) (fun a b => ?_) _
    · rw [le_less] at h1 h2 ⊢
      cases e : Op.bytesLess c a with
      | false => rfl
      | true =>
        simp only [Bool.not_eq_true'] at h1 h2
        cases e2 : Op.bytesLess b c with
        | true =>
          have := blT_trans _ _ _ e2 e
          rw [this] at h1; cases h1
        | false =>
          have := blT_total _ _ e2 h2
          rw [this, e] at h1; cases h1
    · rw [le_less, le_less]
      cases e : Op.bytesLess b a with
      | false => rfl
      | true =>
        cases e2 : Op.bytesLess a b with
        | false => rfl
        | true =>
          have := blT_trans _ _ _ e e2
          rw [blT_irr] at this; cases this
  rw [hz]
  have hd : ∀ i j, i < j → j < z.toArray.size → Op.bytesLess z.toArray[j]! z.toArray[i]! = false := fun i j hij hj => by
    have hj' : j < z.length := by simpa using hj
    have := List.pairwise_iff_getElem.1 hs i j (by omega) hj' hij
    rw [le_less] at this
    simpa [hj', show i < z.length by omega] using this
  obtain ⟨c1, c2⟩ := compact_upTo z.toArray hd z.length (by simp)
  refine rise_same _ _ c1 ?_ fun x => ?_
  · rw [List.pairwise_map]
    exact (rise_insAll l).imp fun {a b} h => by
      unfold lessT at h
      rwa [ByteArray.toList_eq, ByteArray.toList_eq] at h
  · show x ∈ Lib.compactUpTo z.toArray z.length ↔ _
    rw [c2]
    have h1 : (∃ j, j < z.length ∧ z.toArray[j]! = x) ↔ x ∈ z := by
      constructor
      · rintro ⟨j, hj, rfl⟩
        simp [hj]
      · intro h
        obtain ⟨j, hj, rfl⟩ := List.mem_iff_getElem.1 h
        exact ⟨j, hj, by simp [hj]⟩
    rw [h1, hp.mem_iff, List.mem_map, List.mem_map]
    constructor
    · rintro ⟨a, ha, rfl⟩
      exact ⟨a, (mem_insAll l a []).2 (.inr ha), rfl⟩
    · rintro ⟨a, ha, rfl⟩
      rcases (mem_insAll l a []).1 ha with h | h
      · cases h
      · exact ⟨a, h, rfl⟩
end Go.Proofs.YtbblmpibekkbfaaDoor
