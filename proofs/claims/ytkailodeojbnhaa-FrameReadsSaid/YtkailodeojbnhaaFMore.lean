/- What the statements ask of whole frames, in plain lists and as contracts that they share. -/
import Derived.Test.YtkailodeojbnhaaFShown
import Derived.Test.YtkailodeojbnhaaFOpen
import Derived.Laws.AppendOwnNone
namespace Go.Proofs.Ytkailodeojbnhaa
open Go.RowKit

theorem maxLen_of {n : Nat} (h : n ≤ 1000000) : n ≤ maxLen := by unfold maxLen; omega
theorem pk_whole (seq : Nat) (L : List (Int × ByteArray)) (h : 1 ≤ L.length) : pk seq (wholeL L) = (packL seq (wholeL L), 0) := by
  unfold pk
  rw [if_pos ((chk_ok _).2 ⟨by rw [wholeL_len]; omega, by rw [wholeL_len]; omega, wholeL_ok L⟩)]
theorem packL_len (seq : Nat) (M : List (Int × ByteArray)) : (packL seq M).length = M.length + 1 := by unfold packL; simp
theorem packL_sizes (seq : Nat) (M : List (Int × ByteArray)) (h48 : M.length ≤ 48) (h : ∀ x ∈ M, WrOk x) : ∀ d ∈ packL seq M, d.size = 256 := by
  intro d hd
  unfold packL at hd
  rcases List.mem_cons.1 hd with rfl | hd
  · rw [bs_len]; exact topL_len seq M h48
  · obtain ⟨x, hx, rfl⟩ := List.mem_map.1 hd
    exact (h x hx).2.2
theorem packL_zero (seq : Nat) (M : List (Int × ByteArray)) : (packL seq M)[0]? = some (bs (topL seq M)) := rfl
theorem packL_succ (seq : Nat) (M : List (Int × ByteArray)) (k : Nat) (h : k < M.length) : (packL seq M)[k + 1]? = some M[k].2 := by
  simp [packL, h]
theorem StrsAt.at? {w : World} {b off : Nat} {L : List ByteArray} (h : StrsAt w b off L) {j : Nat} {s : ByteArray} (hj : L[j]? = some s) : w.cell? ⟨b, off + j, none⟩ = some (.string s) := by
  obtain ⟨hl, e⟩ := List.getElem?_eq_some_iff.1 hj
  rw [h j hl, e]
theorem StrsAt.taken {w : World} {b off : Nat} {L : List ByteArray} (h : StrsAt w b off L) (j : Nat) : StrsAt w b off (L.take j) := fun i hi => by
  have : i < L.length := by rw [List.length_take] at hi; omega
  rw [h i this, List.getElem_take]
theorem sl_taken {w : World} {g c : Nat} {L : List ByteArray} (h : StrsAt w g 0 L) (hg : g < w.heap.size) (j : Nat) (hj : j ≤ L.length) (hc : L.length ≤ c) : SlS w (.slice (some ⟨g, 0, none⟩) j c) (L.take j) := by
  have e : (L.take j).length = j := by rw [List.length_take]; omega
  refine ⟨some ⟨g, 0, none⟩, c, by rw [e], by rw [e]; omega, .inr ⟨g, 0, rfl, hg, h.taken j⟩⟩
theorem OwnS.nilcap {B : Nat} {w : World} {v : Value} {L : List ByteArray} (h : OwnS B w v L) : ∀ n c, v = .slice none n c → c = 0 := by
  intro n c hv
  rcases h.2 with ⟨e, _⟩ | ⟨g, cap, cur, e, _⟩
  · rw [e] at hv; cases hv; rfl
  · rw [e] at hv; cases hv
/-- An append of whatever reads as texts onto a row of one's own. -/
theorem wpList_append_sl {w : World} {ops : Array Oper} {rest : List Oper} {o : Oper} {a : Act} {Q : Exit → Act → World → Prop} (hgd : o.guard = none) (s x : Operand)
    (ho : o.op = .call { callee := .builtin .append, args := #[s, x], argTypes := #[26, 26] }) (B : Nat) (v : Value) (M : List ByteArray) (hs : a.eval s = v) (hown : OwnS B w v M)
    (xv : Value) (D : List ByteArray) (hx : a.eval x = xv) (hsl : SlS w xv D) (hnil : ∀ n c, xv = .slice none n c → c = 0) (hlen : M.length + D.length ≤ 1000) (hB : B ≤ w.heap.size)
    (h : ∀ v' w', OwnS B w' v' (M ++ D) → w.grownBy w' v.ownBlock → wpList Try.prog ops Q rest (a.put o.dst v') w') : wpList Try.prog ops Q (o :: rest) a w := by
  obtain ⟨i0, hi, hz0, hz1, hz2⟩ := info_parts Try.infoS
  obtain ⟨ao, c, rfl, hc, hh⟩ := hsl
  cases ao with
  | none =>
    have e : D = [] := by
      rcases hh with e | ⟨b, off, e, _⟩
      · exact e
      · cases e
    subst e
    obtain rfl := hnil _ _ rfl
    refine wpList_append_own_none hgd s x 26 ho B 9 i0 1 Try.underlying26 hi v M.length (M.map Value.string) hs hown hx ?_
    refine h v w (by rw [List.append_nil]; exact hown) ⟨rfl, rfl, rfl, Nat.le_refl _, fun _ _ _ => rfl⟩
  | some ad =>
    refine wpList_append_own w hgd s x 26 ho B 9 i0 _ 1 16 Try.underlying26 hi hz0 hz1 hz2 rfl (by decide) v M.length (M.map Value.string) hs hown ad D.length c (D.map Value.string) hx (by simp) ?_ ?_ (by unfold maxLen; omega) (by omega) hB ?_
    · intro j u hu
      have hj : j < D.length := by
        have := (List.getElem?_eq_some_iff.1 hu).1
        simpa using this
      rcases hh with e | ⟨b, off, e, _, hw⟩
      · subst e; simp at hj
      · cases e
        rw [add_at, hw j hj]
        rw [List.getElem?_map, List.getElem?_eq_getElem hj] at hu
        simpa using hu
    · intro u hu
      obtain ⟨d, _, rfl⟩ := List.mem_map.1 hu
      rfl
    · intro v' w' h1 h2 _
      refine h v' w' ?_ h2
      unfold OwnS
      rw [List.length_append, List.map_append]
      exact h1
theorem pick_nat (c : Int) (n : Nat) (h : 1 ≤ n) : ∃ j : Nat, j < n ∧ pickI c (n : Int) = (j : Int) := by
  have := pickI_lt c (n : Int) (by omega)
  exact ⟨(pickI c n).toNat, by omega, by omega⟩
end Go.Proofs.Ytkailodeojbnhaa
