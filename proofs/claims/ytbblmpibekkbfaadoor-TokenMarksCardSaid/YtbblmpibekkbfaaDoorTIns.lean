/- A row of texts cut at a place, and its parts appended to a row of texts of one's own. -/
import Derived.Test.YtbblmpibekkbfaaDoorTTerms
import Derived.Deep.AppendLies
import Derived.Deep.RegionLaw
import Derived.Great.BuildSlice
import Derived.Laws.AppendOwn
namespace Go.Proofs.YtbblmpibekkbfaaDoor
open Go.RowKit

def AppS (X : World) (u : Value) (_m : Nat) (L : List ByteArray) : Prop :=
  ∀ (W : World) (ty : TypeId) (v : Value) (O : List ByteArray), Below X.heap.size X W → O.length ≤ 100001 → TRow X.heap.size W v O → ∃ v' w', (Builtin.append_ #[27, 27] ty #[v, u]).run Tryd.prog W = .ok v' w' ∧ TRow X.heap.size w' v' (O ++ L) ∧ W.grownBy w' v.ownBlock
theorem appS_some {X : World} {m c : Nat} {ad : Addr} {L : List ByteArray} (hl : L.length = m) (hm : m ≤ 100001) (h : ∀ W : World, Below X.heap.size X W → ∀ j (hj : j < L.length), W.cell? (ad.add j) = some (.string L[j])) :
    AppS X (.slice (some ad) m c) m L := by
  intro W ty v O hW hn hown
  obtain ⟨i0, hi, hz0, hz1, hz2⟩ := info_parts infoT
  obtain ⟨v', w', h1, h2, h3, _⟩ := run_append_own (P := Tryd.prog) W X.heap.size 27 ty 9 i0 (.string ⟨#[]⟩) 1 16 Tryd.underlying27 hi hz0 hz1 hz2 rfl (by omega) v O.length _ hown ad m c (L.map Value.string) (by rw [List.length_map]; omega)
    (fun j u hu => by
      rw [List.getElem?_map] at hu
      cases hq : L[j]? with
      | none => rw [hq] at hu; cases hu
      | some x =>
        obtain ⟨hj, rfl⟩ := List.getElem?_eq_some_iff.1 hq
        rw [hq] at hu
        simp only [Option.map_some, Option.some.injEq] at hu
        rw [← hu]
        exact h W hW j hj)
    (fun u hu => by obtain ⟨x, _, rfl⟩ := List.mem_map.1 hu; rfl) (by unfold maxLen; omega) (by omega) hW.size
  refine ⟨v', w', h1, ?_, h3⟩
  unfold TRow
  rw [List.length_append, hl, List.map_append]
  exact h2
theorem appS_nil {X : World} : AppS X (.slice none 0 0) 0 [] := by
  intro W ty v O hW hn hown
  refine ⟨v, W, ?_, by simpa using hown, ⟨rfl, rfl, rfl, Nat.le_refl _, fun _ _ _ => rfl⟩⟩
  have hO := hown
  unfold TRow at hO
  rcases hO.2 with ⟨rfl, h0⟩ | ⟨g, cap, cur, rfl, hb, hg, hnc, hcm, hcs, htk⟩
  · exact rfl
  · obtain ⟨i0, hi, hz0, hz1, hz2⟩ := info_parts infoT
    have hz3 : O.length < 9223372036854775808 := by omega
    simp [Builtin.append_, run_underlying Tryd.underlying27, sizeOf, typeInfo, zeroValue, hi, hz0, Builtin.firstCells, Builtin.lenOf, hnc, storeCells]
/-- Both parts, as what is appended. -/
theorem ins_ap {X : World} {B i : Nat} {ao : Option Addr} {c : Nat} {L : List ByteArray} (h : TRow B X (.slice ao L.length c) L) (hi : i ≤ L.length) (hl : L.length ≤ 100000) :
    i ≤ c ∧ AppS X (.slice ao i c) i (L.take i) ∧ AppS X (.slice (if c = i then ao else Option.map (fun x => x.add i) ao) (L.length - i) (c - i)) (L.length - i) (L.drop i) := by
  rcases Nat.eq_zero_or_pos L.length with h0 | h0
  · have hL0 : L = [] := List.eq_nil_of_length_eq_zero h0
    subst hL0
    obtain rfl : i = 0 := by simpa using hi
    unfold TRow at h
    rcases h.2 with ⟨hv, _⟩ | ⟨g, cap, cur, hv, _⟩
    · injection hv with e1 e2 e3
      subst e1; subst e3
      exact ⟨Nat.le_refl _, appS_nil, appS_nil⟩
    · injection hv with e1 e2 e3
      subst e1; subst e3
      refine ⟨Nat.zero_le _, appS_some rfl (by omega) (fun W _ j hj => absurd hj (by simp)), ?_⟩
      split
      · exact appS_some rfl (by simp) (fun W _ j hj => absurd hj (by simp))
      · exact appS_some rfl (by simp) (fun W _ j hj => absurd hj (by simp))
  · obtain ⟨g, c', hv, hcl, hbg, hg, hc, _⟩ := h.here h0
    injection hv with e1 e2 e3
    subst e1; subst e3
    refine ⟨by omega, appS_some (by rw [List.length_take]; omega) (by omega) (fun W hW j hj => ?_), ?_⟩
    · have hj2 : j < L.length := by rw [List.length_take] at hj; omega
      rw [add_atT, Nat.zero_add, List.getElem_take]
      exact (hW.cell (p := ⟨g, j, none⟩) hg).trans (hc j hj2)
    · by_cases hci : c = i
      · have hd : L.drop i = [] := List.drop_eq_nil_of_le (by omega)
        rw [hd, if_pos hci]
        exact appS_some (by simp; omega) (by omega) (fun W hW j hj => absurd hj (by simp))
      · rw [if_neg hci]
        refine appS_some (by rw [List.length_drop]) (by omega) (fun W hW j hj => ?_)
        have hj2 : i + j < L.length := by rw [List.length_drop] at hj; omega
        show W.cell? (((⟨g, 0, none⟩ : Addr).add i).add j) = _
        rw [add_atT, add_atT, List.getElem_drop, Nat.zero_add]
        exact (hW.cell (p := ⟨g, i + j, none⟩) hg).trans (hc _ hj2)
/-- An append in a region, of what is appended to any row. -/
theorem step_appS {X : World} {m : Nat} {u : Value} {L : List ByteArray} {ops : Array Oper} {o : Oper} {a : Act} {w : World} {K : Act → World → Prop} {Q : Exit → Act → World → Prop} {E : Prop} (h : AppS X u m L) (hgd : o.guard = none) (s x : Operand)
    (ho : o.op = .call { callee := .builtin .append, args := #[s, x], argTypes := #[27, 27] })
    (v : Value) (O : List ByteArray) (hs : a.eval s = v) (hx : a.eval x = u) (hW : Below X.heap.size X w) (hn : O.length ≤ 100001) (hown : TRow X.heap.size w v O)
    (hK : ∀ v' w', TRow X.heap.size w' v' (O ++ L) → Below X.heap.size X w' → w.grownBy w' v.ownBlock → K (a.put o.dst v') w') :
    if Region.wanted o (yielded ops a.tmps) = true then Oper.wp Tryd.prog o a w K Q else E := by
  obtain ⟨v', w', hr, h2, h3⟩ := h w o.type v O hW hn hown
  have hw : Region.wanted o (yielded ops a.tmps) = true := by simp [Region.wanted, hgd]
  rw [if_pos hw]
  unfold Oper.wp
  have hrun : (execOp a.eval o).run Tryd.prog w = .ok (.value v') w' := by
    unfold execOp
    simp only [ho, resolve, invoke, builtin, List.map_toArray, List.map_cons, List.map_nil, hs, hx, Sem.run_bind, Sem.run_pure, Result.andThen_ok, hr]
  rw [hrun]
  exact hK v' w' h2 (hW.grown h3 hW.size (fun q hq => hown.low hq)) h3
/-- .. and of a literal of one text. -/
theorem step_litS {X : World} {T : ByteArray} {g : Nat} {t : TypeId} {fz : Nat × Nat} {ops : Array Oper} {o : Oper} {a : Act} {w : World} {K : Act → World → Prop} {Q : Exit → Act → World → Prop} {E : Prop} (hg : w.heap[g]? = some (.cells #[.string T] t fz)) (hgd : o.guard = none) (s x : Operand)
    (ho : o.op = .call { callee := .builtin .append, args := #[s, x], argTypes := #[27, 27] })
    (v : Value) (O : List ByteArray) (hs : a.eval s = v) (hx : a.eval x = .slice (some ⟨g, 0, none⟩) 1 1) (hW : Below X.heap.size X w) (hn : O.length ≤ 100001) (hown : TRow X.heap.size w v O)
    (hK : ∀ v' w', TRow X.heap.size w' v' (O ++ [T]) → Below X.heap.size X w' → w.grownBy w' v.ownBlock → K (a.put o.dst v') w') :
    if Region.wanted o (yielded ops a.tmps) = true then Oper.wp Tryd.prog o a w K Q else E := by
  obtain ⟨i0, hi, hz0, hz1, hz2⟩ := info_parts infoT
  obtain ⟨v', w', hr, h2, h3, _⟩ := run_append_own (P := Tryd.prog) w X.heap.size 27 o.type 9 i0 (.string ⟨#[]⟩) 1 16 Tryd.underlying27 hi hz0 hz1 hz2 rfl (by omega) v O.length _ hown ⟨g, 0, none⟩ 1 1 [.string T] rfl
    (fun j u hu => by
      cases j with
      | zero => rw [add_atT, cell_atT hg]; exact hu
      | succ j => simp at hu) one_oneT (by unfold maxLen; omega) (by omega) hW.size
  have hw : Region.wanted o (yielded ops a.tmps) = true := by simp [Region.wanted, hgd]
  rw [if_pos hw]
  unfold Oper.wp
  have hrun : (execOp a.eval o).run Tryd.prog w = .ok (.value v') w' := by
    unfold execOp
    simp only [ho, resolve, invoke, builtin, List.map_toArray, List.map_cons, List.map_nil, hs, hx, Sem.run_bind, Sem.run_pure, Result.andThen_ok, hr]
  rw [hrun]
  refine hK v' w' ?_ (hW.grown h3 hW.size (fun q hq => hown.low hq)) h3
  unfold TRow
  rw [List.length_append, List.map_append]
  exact h2
theorem TRow.shape {B : Nat} {w : World} {v : Value} {O : List ByteArray} (h : TRow B w v O) {n : Nat} (hn : O.length = n) : ∃ ao c, v = .slice ao n c := by
  subst hn
  unfold TRow at h
  rcases h.2 with ⟨rfl, e⟩ | ⟨g, cap, cur, rfl, _⟩
  · rw [e]; exact ⟨_, _, rfl⟩
  · exact ⟨_, _, rfl⟩
theorem empty_own (w : World) (o : Obj) : TRow w.heap.size ((w.alloc o).alloc (.cells #[] 9)) (.slice (some ⟨w.heap.size + 1, 0, none⟩) 0 0) [] := by
  have h := World.ownsRow_lit (base := w.heap.size) (e := 9) (size := 1) (w.alloc o) #[] 0 (by simp) (Nat.zero_le _) rfl
  rwa [show (w.alloc o).heap.size = w.heap.size + 1 by simp] at h
theorem alloc2_newT (w : World) (a b : Obj) : ((w.alloc a).alloc b).heap[w.heap.size + 1]? = some b := by
  have := heap_alloc_newT (w.alloc a) b
  simpa using this
theorem alloc_keepT {w : World} {o x : Obj} {k : Nat} (h : w.heap[k]? = some x) : (w.alloc o).heap[k]? = some x := (Below.heap_alloc _ _ _ (Array.getElem?_eq_some_iff.1 h).1).trans h
theorem grown_blockT {w w' : World} {o : Option Nat} (h : w.grownBy w' o) {q : Nat} (hq : q < w.heap.size) (hne : o ≠ some q) : w'.heap[q]? = w.heap[q]? := h.block q hq (fun e => hne e.symm)
end Go.Proofs.YtbblmpibekkbfaaDoor
