/- A text, a blank, another text: their tokens, in plain lists; a row of tokens appended to one's own. -/
import Derived.Test.YtbblmpibekkbfaaDoorTFoldM
namespace Go.Proofs.YtbblmpibekkbfaaDoor
open Go.RowKit

def shiftK (n : Nat) (L : List (ByteArray × Int)) : List (ByteArray × Int) := L.map fun x => (x.1, x.2 + (n : Int))
def wN (s : ByteArray) : Nat := ((grps (cut s.data.toList)).map termG).length
theorem wN_le (s : ByteArray) : wN s ≤ s.size := by
  have := (words_small s.data.toList).1
  unfold wordsL at this
  unfold wN
  rw [List.length_map] at this ⊢
  rw [data_len] at this
  exact this
theorem toksF_add (k : Nat) : ∀ (l : List (List UInt8)) (i : Nat), toksF l (i + k) = shiftK k (toksF l i)
  | [], _ => rfl
  | x :: r, i => by
    have ih := toksF_add k r (i + 1)
    rw [show i + 1 + k = i + k + 1 by omega] at ih
    show (if keepT x = true then (utxt x, ((i + k : Nat) : Int)) :: toksF r (i + k + 1) else toksF r (i + k + 1)) = shiftK k (if keepT x = true then (utxt x, (i : Int)) :: toksF r (i + 1) else toksF r (i + 1))
    by_cases h : keepT x = true
    · rw [if_pos h, if_pos h, ih]
      show _ = (utxt x, (i : Int) + (k : Int)) :: shiftK k (toksF r (i + 1))
      rw [Int.natCast_add]
    · rw [if_neg h, if_neg h, ih]
theorem toksF_app : ∀ (a b : List (List UInt8)) (i : Nat), toksF (a ++ b) i = toksF a i ++ toksF b (i + a.length)
  | [], b, i => rfl
  | x :: a, b, i => by
    have ih := toksF_app a b (i + 1)
    rw [show i + 1 + a.length = i + (x :: a).length by rw [List.length_cons]; omega] at ih
    rw [List.cons_append]
    show (if keepT x = true then (utxt x, (i : Int)) :: toksF (a ++ b) (i + 1) else toksF (a ++ b) (i + 1)) = (if keepT x = true then (utxt x, (i : Int)) :: toksF a (i + 1) else toksF a (i + 1)) ++ _
    by_cases h : keepT x = true
    · rw [if_pos h, if_pos h, ih]; rfl
    · rw [if_neg h, if_neg h, ih]
theorem appendT_list (a b : ByteArray) : (a ++ b).data.toList = a.data.toList ++ b.data.toList := by
  rw [ByteArray.data_append, Array.toList_append]
theorem tokL_blank (s t : ByteArray) : tokL (s ++ ⟨#[32]⟩ ++ t) = tokL s ++ shiftK (wN s) (tokL t) := by
  have e : (s ++ ⟨#[32]⟩ ++ t).data.toList = s.data.toList ++ 32 :: t.data.toList := by
    rw [appendT_list, appendT_list]; simp
  rw [tokL_F, e, grps_blank, List.map_append, toksF_app, tokL_F s, tokL_F t, ← toksF_add]
  unfold wN
  rw [Nat.add_comm]
theorem tokL_zz (s : ByteArray) : tokL (s ++ ⟨#[32, 122, 122]⟩) = tokL s ++ [(⟨#[122, 122]⟩, (wN s : Int))] := by
  have e : (s ++ (⟨#[32, 122, 122]⟩ : ByteArray)).data.toList = s.data.toList ++ 32 :: [122, 122] := by
    rw [appendT_list]
  rw [tokL_F, e, grps_blank, List.map_append, toksF_app, tokL_F s]
  rw [Nat.zero_add]
  have h : toksF ((grps (cut [122, 122])).map termG) (wN s) = [(⟨#[122, 122]⟩, (wN s : Int))] := by
    have h0 : toksF ((grps (cut [122, 122])).map termG) 0 = [(⟨#[122, 122]⟩, 0)] := by decide +kernel
    have := toksF_add (wN s) ((grps (cut [122, 122])).map termG) 0
    rw [Nat.zero_add, h0] at this
    rw [this]
    show [((⟨#[122, 122]⟩ : ByteArray), (0 : Int) + (wN s : Int))] = _
    rw [Int.zero_add]
  exact congrArg (tokL s ++ ·) h |>.trans rfl |> fun h => by rw [← tokL_F]; exact h
section
variable {P : Program} (w : World)
theorem run_append_whereT (base : Nat) (t ty e : TypeId) (i : TypeInfo) (z : Value) (size bytes : Nat) (ht : P.underlying t = some (.slice e)) (hi : P.info? e = some i) (hz : i.zero = some z)
    (hsize : i.size = size) (hby : i.bytes = bytes) (hzs : z.cells.size = size) (hsz : 0 < size)
    (v : Value) (n : Nat) (xs : List Value) (hown : w.ownsRow base e size v n xs)
    (a : Addr) (m c : Nat) (news : List Value) (hl : news.length = m * size) (hnews : ∀ j u, news[j]? = some u → w.cell? (a.add j) = some u) (h1 : ∀ u ∈ news, u.oneCell' = true)
    (h63 : n + m ≤ maxLen) (hbytes : (n + m) * bytes ≤ 140737488355328) (hbase : base ≤ w.heap.size) :
    ∃ v' w', (Builtin.append_ #[t, t] ty #[v, .slice (some a) m c]).run P w = .ok v' w' ∧ w'.ownsRow base e size v' (n + m) (xs ++ news) ∧ w.grownBy w' v.ownBlock ∧
      (∀ k, v'.ownBlock = some k → v.ownBlock = some k ∨ w.heap.size ≤ k) := by
  obtain ⟨v', w', hr, h2, h3, _⟩ := run_append_own (P := P) w base t ty e i z size bytes ht hi hz hsize hby hzs hsz v n xs hown a m c news hl hnews h1 h63 hbytes hbase
  refine ⟨v', w', hr, h2, h3, ?_⟩
  rcases hown.2 with ⟨rfl, rfl⟩ | ⟨g, cap, cur, rfl, hb, hg, hnc, hcm, hcs, htk⟩
  · have hx : xs = [] := List.eq_nil_of_length_eq_zero (by simpa using hown.1)
    subst hx
    obtain ⟨v2, w2, hr', h2', _, _⟩ := run_append_own (P := P) w w.heap.size t ty e i z size bytes ht hi hz hsize hby hzs hsz (.slice none 0 0) 0 [] (World.ownsRow_nil w _ e size) a m c news hl hnews h1 h63 hbytes (Nat.le_refl _)
    rw [hr] at hr'
    cases hr'
    intro k hk
    exact .inr (h2'.lt k hk).1
  · subst hsize
    subst hby
    by_cases hroom : n + m ≤ cap
    · have hfit : n * i.size + news.length ≤ cur.size := by rw [hl, hcs, ← Nat.add_mul]; exact Nat.mul_le_mul_right _ hroom
      have hr' := run_append_room (P := P) w t ty e i ht hi g n cap cur hg a m c news hl hnews h1 hroom hfit
      rw [hr] at hr'
      cases hr'
      intro k hk
      exact .inl hk
    · have hsmall : n + m ≤ 9223372036854775807 := by simp only [maxLen] at h63; omega
      have hr' := run_append_grow (P := P) w t ty e i z ht hi hz ⟨g, 0, none⟩ n cap xs hown.1 (hown.cells (g := g) rfl) a m c news hl hnews (by omega) (by omega) (growslice_fits (by omega) hbytes)
      rw [hr] at hr'
      cases hr'
      intro k hk
      simp [Value.ownBlock] at hk
      exact .inr (by omega)

end
theorem run_appK (w : World) (B : Nat) (ty : TypeId) (v u : Value) (O L : List (ByteArray × Int)) (hO : KRow B w v O) (hL : RdK w u L) (hB : B ≤ w.heap.size) (hn : O.length + L.length ≤ 100000) (h0 : L = [] → ∃ g c, v = .slice (some ⟨g, 0, none⟩) O.length c) :
    ∃ v' w', (Builtin.append_ #[24, 24] ty #[v, u]).run Tryd.prog w = .ok v' w' ∧ KRow B w' v' (O ++ L) ∧ w.grownBy w' v.ownBlock ∧ (∀ k, v'.ownBlock = some k → v.ownBlock = some k ∨ w.heap.size ≤ k) := by
  obtain ⟨i0, hi, hz0, hz1, hz2⟩ := info_parts infoK
  obtain ⟨ao, c, rfl, hc⟩ := hL
  by_cases hl : L.length = 0
  · have hL0 : L = [] := List.eq_nil_of_length_eq_zero hl
    subst hL0
    cases ao with
    | none =>
      obtain ⟨g, c', rfl⟩ := h0 rfl
      refine ⟨_, w, ?_, by simpa using hO, ⟨rfl, rfl, rfl, Nat.le_refl _, fun _ _ _ => rfl⟩, fun k hk => .inl hk⟩
      have hO2 := hO
      unfold KRow at hO2
      rcases hO2.2 with ⟨e, _⟩ | ⟨g', cap, cur, e, hb, hg, hnc, hcm, hcs, htk⟩
      · cases e
      · injection e with e1 e2 e3
        subst e3
        have hz3 : O.length < 9223372036854775808 := by omega
        simp [Builtin.append_, run_underlying Tryd.underlying24, sizeOf, typeInfo, zeroValue, hi, hz0, Builtin.firstCells, Builtin.lenOf, hnc, storeCells]
    | some ad =>
      obtain ⟨v', w', h1, h2, h3, h4⟩ := run_append_whereT (P := Tryd.prog) w B 24 ty 32 i0 _ 2 24 Tryd.underlying24 hi hz0 hz1 hz2 rfl (by omega) v O.length _ hO ad 0 c [] rfl (fun j u hu => by simp at hu) (fun u hu => by cases hu) (by unfold maxLen; omega) (by omega) hB
      exact ⟨v', w', h1, by unfold KRow; simpa using h2, h3, h4⟩
  · obtain ⟨g, off, rfl, hg, _, _⟩ := hc 0 (by omega)
    obtain ⟨v', w', h1, h2, h3, h4⟩ := run_append_whereT (P := Tryd.prog) w B 24 ty 32 i0 _ 2 24 Tryd.underlying24 hi hz0 hz1 hz2 rfl (by omega) v O.length _ hO ⟨g, off, none⟩ L.length c (flatK L) (flatK_len L)
      (fun j u hu => by
        rw [add_atT]
        have hj : j < L.length * 2 := by rw [← flatK_len]; exact (List.getElem?_eq_some_iff.1 hu).1
        obtain ⟨g', off', e, _, c0, c1⟩ := hc (j / 2) (by omega)
        obtain ⟨rfl, rfl⟩ : g = g' ∧ off = off' := by simpa using e
        have hf := flatK_get L (j / 2) (by omega)
        rcases (by omega : j = 2 * (j / 2) ∨ j = 2 * (j / 2) + 1) with h | h
        · rw [h, hf.1] at hu
          rw [h, ← hu, Nat.mul_comm]; exact c0
        · rw [h, hf.2] at hu
          rw [h, ← hu, Nat.mul_comm 2, ← Nat.add_assoc]; exact c1)
      (fun u hu => by
        obtain ⟨j, hj, rfl⟩ := List.getElem_of_mem hu
        have hj2 : j < L.length * 2 := by rw [← flatK_len]; exact hj
        have hf := flatK_get L (j / 2) (by omega)
        rcases (by omega : j = 2 * (j / 2) ∨ j = 2 * (j / 2) + 1) with h | h
        · have := hf.1; rw [← h, List.getElem?_eq_getElem hj] at this; injection this with this; rw [this]; rfl
        · have := hf.2; rw [← h, List.getElem?_eq_getElem hj] at this; injection this with this; rw [this]; rfl)
      (by unfold maxLen; omega) (by omega) hB
    refine ⟨v', w', h1, ?_, h3, h4⟩
    unfold KRow
    rw [List.length_append, flatK_app]
    exact h2
theorem wpList_appK {ops : Array Oper} {rest : List Oper} {o : Oper} {a : Act} {w : World} {Q : Exit → Act → World → Prop} (hgd : o.guard = none) (s x : Operand)
    (ho : o.op = .call { callee := .builtin .append, args := #[s, x], argTypes := #[24, 24] }) (B : Nat) (v u : Value) (O L : List (ByteArray × Int)) (hs : a.eval s = v) (hx : a.eval x = u) (hO : KRow B w v O) (hL : RdK w u L) (hB : B ≤ w.heap.size) (hn : O.length + L.length ≤ 100000) (h0 : L = [] → ∃ g c, v = .slice (some ⟨g, 0, none⟩) O.length c)
    (h : ∀ v' w', KRow B w' v' (O ++ L) → w.grownBy w' v.ownBlock → (∀ k, v'.ownBlock = some k → v.ownBlock = some k ∨ w.heap.size ≤ k) → wpList Tryd.prog ops Q rest (a.put o.dst v') w') : wpList Tryd.prog ops Q (o :: rest) a w := by
  refine wpList_plain hgd fun _ hK => ?_
  obtain ⟨v', w', hr, h2, h3, h4⟩ := run_appK w B o.type v u O L hO hL hB hn h0
  unfold Oper.wp execOp
  simp only [ho, resolve, invoke, builtin, Sem.run_bind, Sem.run_pure, Result.andThen_ok, List.map_toArray, List.map_cons, List.map_nil, hs, hx, hr]
  exact hK _ _ (h v' w' h2 h3 h4)
theorem step_appK {ops : Array Oper} {o : Oper} {a : Act} {w : World} {K : Act → World → Prop} {Q : Exit → Act → World → Prop} {E : Prop} (hgd : o.guard = none) (s x : Operand)
    (ho : o.op = .call { callee := .builtin .append, args := #[s, x], argTypes := #[24, 24] }) (B : Nat) (v u : Value) (O L : List (ByteArray × Int)) (hs : a.eval s = v) (hx : a.eval x = u) (hO : KRow B w v O) (hL : RdK w u L) (hB : B ≤ w.heap.size) (hn : O.length + L.length ≤ 100000) (h0 : L = [] → ∃ g c, v = .slice (some ⟨g, 0, none⟩) O.length c)
    (h : ∀ v' w', KRow B w' v' (O ++ L) → w.grownBy w' v.ownBlock → (∀ k, v'.ownBlock = some k → v.ownBlock = some k ∨ w.heap.size ≤ k) → K (a.put o.dst v') w') :
    if Region.wanted o (yielded ops a.tmps) = true then Oper.wp Tryd.prog o a w K Q else E := by
  obtain ⟨v', w', hr, h2, h3, h4⟩ := run_appK w B o.type v u O L hO hL hB hn h0
  have hw : Region.wanted o (yielded ops a.tmps) = true := by simp [Region.wanted, hgd]
  rw [if_pos hw]
  unfold Oper.wp
  have hrun : (execOp a.eval o).run Tryd.prog w = .ok (.value v') w' := by
    unfold execOp
    simp only [ho, resolve, invoke, builtin, List.map_toArray, List.map_cons, List.map_nil, hs, hx, Sem.run_bind, Sem.run_pure, Result.andThen_ok, hr]
  rw [hrun]
  exact h v' w' h2 h3 h4
/-- The row is somewhere once it was. -/
theorem KRow.some {B : Nat} {w : World} {v : Value} {O : List (ByteArray × Int)} (h : KRow B w v O) (h0 : 0 < O.length) : ∃ g c, v = .slice (some ⟨g, 0, none⟩) O.length c := by
  unfold KRow at h
  rcases h.2 with ⟨_, e⟩ | ⟨g, cap, cur, e, _⟩
  · omega
  · exact ⟨g, cap, e⟩
theorem RdK.at {w : World} {ao : Option Addr} {m c : Nat} {L : List (ByteArray × Int)} (h : RdK w (.slice ao m c) L) (j : Nat) (hj : j < L.length) : ∃ g off, ao = some ⟨g, off, none⟩ ∧ g < w.heap.size ∧ w.cell? ⟨g, off + j * 2, none⟩ = some (.string L[j].1) ∧ w.cell? ⟨g, off + j * 2 + 1, none⟩ = some (.int .i64 L[j].2) := by
  obtain ⟨ao', c', hv, hc⟩ := h
  injection hv with e1 e2 e3
  subst e1
  exact hc j hj
def ApartV (v : Value) (u : Value) : Prop := ∀ k, v.ownBlock = some k → ∀ a m c, u = .slice (some a) m c → a.block ≠ k
/-- What reads as a list goes on to, where another row grew. -/
theorem RdK.grown {w w' : World} {u v : Value} {L : List (ByteArray × Int)} (h : RdK w u L) (hg : w.grownBy w' v.ownBlock) (ha : ApartV v u) : RdK w' u L := by
  obtain ⟨ao, c, rfl, hc⟩ := h
  refine ⟨ao, c, rfl, fun j hj => ?_⟩
  obtain ⟨g, off, e, hgl, h1, h2⟩ := hc j hj
  subst e
  have hb := hg.block g hgl (fun e => ha g e.symm _ _ _ rfl rfl)
  refine ⟨g, off, rfl, Nat.lt_of_lt_of_le hgl hg.size, ?_, ?_⟩
  · rw [← h1]; simp only [World.cell?, hb]
  · rw [← h2]; simp only [World.cell?, hb]
end Go.Proofs.YtbblmpibekkbfaaDoor
