/- The document's terms of a text. -/
import Derived.Test.YtbblmpibekkbfaaDoorTSmall
namespace Go.Proofs.YtbblmpibekkbfaaDoor
open Go.RowKit

def lessT (a b : ByteArray) : Bool := Op.bytesLess a.toList b.toList
/-- Where a term stands, or would stand. -/
def posT (o : List ByteArray) (t : ByteArray) : Nat := (o.takeWhile fun a => lessT a t).length
def insT (o : List ByteArray) (t : ByteArray) : List ByteArray := if o[posT o t]? = some t then o else o.take (posT o t) ++ t :: o.drop (posT o t)
def termsL (L : List (ByteArray × Int)) : List ByteArray := (L.map (·.1)).foldl insT []
theorem posT_le (o : List ByteArray) (t : ByteArray) : posT o t ≤ o.length := by
  unfold posT
  exact (List.takeWhile_sublist _).length_le
theorem posT_lo : ∀ (o : List ByteArray) (t : ByteArray) (k : Nat) (h : k < o.length), k < posT o t → lessT o[k] t = true
  | a :: o, t, k, h, hk => by
    unfold posT at hk
    rw [List.takeWhile_cons] at hk
    by_cases ha : lessT a t = true
    · rw [if_pos ha] at hk
      cases k with
      | zero => exact ha
      | succ k => exact posT_lo o t k (by simpa using h) (by simpa [posT] using hk)
    · rw [if_neg ha] at hk; simp at hk
theorem posT_at : ∀ (o : List ByteArray) (t : ByteArray) (h : posT o t < o.length), lessT o[posT o t] t = false
  | [], t, h => by simp [posT] at h
  | a :: o, t, h => by
    by_cases ha : lessT a t = true
    · have e : posT (a :: o) t = posT o t + 1 := by unfold posT; rw [List.takeWhile_cons, if_pos ha]; rfl
      have h' : posT o t < o.length := by rw [e] at h; simpa using h
      have := posT_at o t h'
      simp only [e, List.getElem_cons_succ]
      exact this
    · have e : posT (a :: o) t = 0 := by unfold posT; rw [List.takeWhile_cons, if_neg ha]; rfl
      simp only [e, List.getElem_cons_zero]
      simpa using ha
theorem insT_len (o : List ByteArray) (t : ByteArray) : (insT o t).length ≤ o.length + 1 := by
  unfold insT
  split
  · omega
  · rw [List.length_append, List.length_cons, List.length_take, List.length_drop]; omega
theorem flatK_get : ∀ (L : List (ByteArray × Int)) (j : Nat) (h : j < L.length), (flatK L)[2 * j]? = some (.string L[j].1) ∧ (flatK L)[2 * j + 1]? = some (.int .i64 L[j].2)
  | (t, i) :: L, 0, _ => ⟨rfl, rfl⟩
  | (t, i) :: L, j + 1, h => by
    have := flatK_get L j (by simpa using h)
    exact this
theorem flatK_len : ∀ L : List (ByteArray × Int), (flatK L).length = L.length * 2
  | [] => rfl
  | (t, i) :: L => by
    show (flatK L).length + 2 = (L.length + 1) * 2
    rw [flatK_len L]; omega
theorem KRow.sl {B : Nat} {w : World} {v : Value} {L : List (ByteArray × Int)} (h : KRow B w v L) : ∃ ao c, v = .slice ao L.length c ∧ ∀ j (hj : j < L.length), ∃ g, ao = some ⟨g, 0, none⟩ ∧ g < w.heap.size ∧ w.cell? ⟨g, j * 2, none⟩ = some (.string L[j].1) ∧ w.cell? ⟨g, j * 2 + 1, none⟩ = some (.int .i64 L[j].2) := by
  have hO := h
  rcases h.2 with ⟨hv, hn⟩ | ⟨g, cap, cur, rfl, hbg, hg, hc, _⟩
  · exact ⟨none, 0, by rw [hv, hn], fun j hj => absurd hj (by omega)⟩
  · refine ⟨_, cap, rfl, fun j hj => ⟨g, rfl, (Array.getElem?_eq_some_iff.1 hg).1, ?_, ?_⟩⟩
    · rw [World.ownsRow.cellAt hO (j * 2) (by omega), Nat.mul_comm]
      exact (flatK_get L j hj).1
    · rw [World.ownsRow.cellAt hO (j * 2 + 1) (by omega), Nat.mul_comm]
      exact (flatK_get L j hj).2
end Go.Proofs.YtbblmpibekkbfaaDoor
