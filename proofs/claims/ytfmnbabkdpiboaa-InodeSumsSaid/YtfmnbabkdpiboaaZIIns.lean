/- slices.Insert of one extent into a row of one's own. -/
import Derived.Test.YtfmnbabkdpiboaaZIRoom
import Derived.Test.YtfmnbabkdpiboaaZBase
import Derived.Lib.Overlaps
import Derived.Lib.AppendZerosOnto
import Derived.Laws.CopyRow
import Derived.Laws.NewBlocks
import Derived.Deep.RegionLaw
import Derived.OwnWalk
import Derived.Laws.CopyOwn

namespace Go.Proofs.Ytfmnbabkdpiboaa
open Go.RowKit
open Fr (below_drewN)

/-- copy, of elements of k cells. -/
theorem run_copy_wide {P : Program} (w : World) (dT sT ty elem : TypeId) (k g o dLen dCap : Nat) (a : Addr) (sLen sCap : Nat) (cur : Array Value) (t : TypeId) (cs : List Value)
    (hu : P.underlying dT = some (.slice elem)) (hs : (P.info? elem).map (·.size) = some k)
    (hg : w.heap[g]? = some (.cells cur t (0, 0))) (hn : cs.length = Nat.min sLen dLen * k)
    (hsrc : ∀ j v, cs[j]? = some v → w.cell? (a.add j) = some v) (hfit : o + cs.length ≤ cur.size) (h1 : ∀ v ∈ cs, v.oneCell' = true) :
    (Builtin.copy_ #[dT, sT] ty #[.slice (some ⟨g, o, none⟩) dLen dCap, .slice (some a) sLen sCap]).run P w =
      .ok (goInt (Nat.min sLen dLen)) (w.setRow g (cur.toList.take o ++ cs ++ cur.toList.drop (o + cs.length)).toArray) := by
  have hl := run_loadCells_list (P := P) w a cs hsrc
  have hst := run_storeCells_at P g o t cs 0 cur w hg (by simpa using hfit) h1
  cases hq : P.info? elem with
  | none => simp [hq] at hs
  | some i =>
    have hi : i.size = k := by simpa [hq] using hs
    simp [Builtin.copy_, run_underlying hu, Builtin.lenOf, Builtin.firstCells, sizeOf, typeInfo, hq, hi, ← hn, hl, hst]
/-- An operation whose run is known, as a step of a region that draws its order, and in a list. -/
theorem step_run {P : Program} {ops : Array Oper} {o : Oper} {a : Act} {w w' : World} {K : Act → World → Prop} {Q : Exit → Act → World → Prop} {E : Prop} {v : Value} (hg : o.guard = none) (hr : (execOp a.eval o).run P w = .ok (.value v) w') (hK : K (a.put o.dst v) w') :
    if Region.wanted o (yielded ops a.tmps) = true then Oper.wp P o a w K Q else E := by
  have hw : Region.wanted o (yielded ops a.tmps) = true := by simp [Region.wanted, hg]
  rw [if_pos hw]
  unfold Oper.wp
  rw [hr]
  exact hK
theorem wpList_runs {P : Program} {ops : Array Oper} {rest : List Oper} {o : Oper} {a : Act} {w w' : World} {Q : Exit → Act → World → Prop} {v : Value} (hg : o.guard = none) (hr : (execOp a.eval o).run P w = .ok (.value v) w') (h : wpList P ops Q rest (a.put o.dst v) w') : wpList P ops Q (o :: rest) a w := by
  refine wpList_plain hg fun K hK => ?_
  unfold Oper.wp
  rw [hr]
  exact hK _ _ h
theorem ex_copy {P : Program} {a : Act} {w w' : World} {o : Oper} {d s : Operand} {t u : TypeId} {x y v : Value} (ho : o.op = .call { callee := .builtin .copy, args := #[d, s], argTypes := #[t, u] }) (hd : a.eval d = x) (hs : a.eval s = y)
    (hr : (Builtin.copy_ #[t, u] o.type #[x, y]).run P w = .ok v w') : (execOp a.eval o).run P w = .ok (.value v) w' := by
  unfold execOp
  simp only [ho, resolve, invoke, builtin, List.map_toArray, List.map_cons, List.map_nil, hd, hs, Sem.run_bind, Sem.run_pure, Result.andThen_ok, hr]
theorem ex_append {P : Program} {a : Act} {w w' : World} {o : Oper} {d s : Operand} {t u : TypeId} {x y v : Value} (ho : o.op = .call { callee := .builtin .append, args := #[d, s], argTypes := #[t, u] }) (hd : a.eval d = x) (hs : a.eval s = y)
    (hr : (Builtin.append_ #[t, u] o.type #[x, y]).run P w = .ok v w') : (execOp a.eval o).run P w = .ok (.value v) w' := by
  unfold execOp
  simp only [ho, resolve, invoke, builtin, List.map_toArray, List.map_cons, List.map_nil, hd, hs, Sem.run_bind, Sem.run_pure, Result.andThen_ok, hr]
theorem own_shapeE {w : World} {B n : Nat} {e : TypeId} {k : Nat} {v : Value} {xs : List Value} (h : w.ownsRow B e k v n xs) : ∃ ao c, v = .slice ao n c := by
  rcases h.2 with ⟨rfl, rfl⟩ | ⟨g, cap, cur, rfl, _⟩
  · exact ⟨_, _, rfl⟩
  · exact ⟨_, _, rfl⟩
theorem two_cellsE {w : World} {g : Nat} {x y : Value} {t : TypeId} {fz : Nat × Nat} (h : w.heap[g]? = some (.cells #[x, y] t fz)) : ∀ j u, [x, y][j]? = some u → w.cell? ((⟨g, 0, none⟩ : Addr).add j) = some u := by
  intro j u hu
  have hadd : (⟨g, 0, none⟩ : Addr).add j = ⟨g, j, none⟩ := by unfold Addr.add; split <;> simp_all
  rw [hadd, Fr.cell_at h]
  simpa using hu
theorem two_oneE (a b : Int) : ∀ u ∈ [Value.int .i64 a, Value.int .i64 b], u.oneCell' = true := by
  intro u hu
  simp at hu
  rcases hu with rfl | rfl <;> rfl
set_option maxRecDepth 100000 in
set_option maxHeartbeats 4000000 in
/-- At the end. -/
theorem insert_end (L : List (Int × Int)) (v : Value) (x : Int × Int) (vb B : Nat) (w : World) (h : OwnE B w v L) (hn : L.length ≤ 100000) (hB : B ≤ w.heap.size) (hv : w.heap[vb]? = some (.cells #[.int .i64 x.1, .int .i64 x.2] 52 (0, 0))) :
    Calls Try.prog 30 #[v, .int .i64 (L.length : Int), .slice (some ⟨vb, 0, none⟩) 1 1] w fun e w' => ∃ u, e = .returned u ∧ Hid (OwnE B w' u (L ++ [x])) ∧ Hid (Below B w w') := by
  obtain ⟨i0, hi, hz0, hz1, hz2⟩ := info_parts Try.infoX
  have HZ2 := Lib.hid hz2
  clear hz2
  obtain ⟨ao, c, hsv⟩ := own_shapeE h
  subst hsv
  have HV := Lib.hid hv; clear hv
  have HO := Lib.hid h
  have hcap : L.length ≤ c := by
    rcases h.2 with ⟨e, e0⟩ | ⟨g, cap, cur, e, _, _, hc, _⟩
    · omega
    · have : c = cap := by simpa using congrArg (fun v => match v with | Value.slice _ _ q => q | _ => 0) e
      omega
  have HB := Lib.hid (Below.refl B w)
  have HE : Hid (∀ w' u, w'.ownsRow B 52 2 u (L.length + 1) (flatE L ++ [.int .i64 x.1, .int .i64 x.2]) → OwnE B w' u (L ++ [x])) := fun w' u hu => by
    unfold OwnE
    rw [List.length_append, List.length_singleton, flatE_append]
    exact hu
  have HGe : Hid (∀ q, (Value.slice ao L.length c).ownBlock = some q → B ≤ q) := fun q hq => (by
    rcases HO.out.2 with ⟨e, _⟩ | ⟨g, cap, cur, e, hg, _⟩
    · rw [e] at hq; cases hq
    · rw [e] at hq; simp [Value.ownBlock] at hq; omega)
  unfold OwnE at HO
  obtain ⟨n, hl⟩ : ∃ n, L.length = n := ⟨_, rfl⟩
  rw [hl] at hn HO hcap HE HGe ⊢
  clear h hl
  generalize flatE L = xs at *
  obtain ⟨x1, x2⟩ := x
  dsimp only at *
  rcases Nat.eq_or_lt_of_le hcap with hcn | hcn
  · subst hcn
    go_enter Try.func30, Try.ntmps30
    go_wp2_with (at_builtin; refine wpList_append_where _ rfl _ _ 48 rfl B 52 i0 _ 2 16 Try.underlying48 hi hz0 hz1 HZ2.out rfl (by decide) _ n xs rfl ?c0 ⟨vb, 0, none⟩ 1 1 [.int .i64 x1, .int .i64 x2] rfl rfl ?c1 ?c2 ?c3 ?c4 ?c5 ?_)
    case c0 => exact HO.out
    case c1 => exact two_cellsE HV.out
    case c2 => exact two_oneE _ _
    case c3 => unfold maxLen; omega
    case c4 => omega
    case c5 => exact hB
    intro u w2 hown hgrow hwh
    have HEnd : Hid (OwnE B w2 u (L ++ [(x1, x2)])) := HE.out _ _ hown
    have HBE : Hid (Below B w w2) := HB.out.grown hgrow hB HGe.out
    clear hown hgrow hwh
    go_wp2
    go_ret
    exact ⟨_, rfl, HEnd, HBE⟩
  · have hcn2 : ¬ (c = n) := by omega
    go_enter Try.func30, Try.ntmps30
    go_wp2_with (at_builtin; refine wpList_append_where _ rfl _ _ 48 rfl B 52 i0 _ 2 16 Try.underlying48 hi hz0 hz1 HZ2.out rfl (by decide) _ n xs rfl ?c0 ⟨vb, 0, none⟩ 1 1 [.int .i64 x1, .int .i64 x2] rfl rfl ?c1 ?c2 ?c3 ?c4 ?c5 ?_)
    case c0 => exact HO.out
    case c1 => exact two_cellsE HV.out
    case c2 => exact two_oneE _ _
    case c3 => unfold maxLen; omega
    case c4 => omega
    case c5 => exact hB
    intro u w2 hown hgrow hwh
    have HEnd : Hid (OwnE B w2 u (L ++ [(x1, x2)])) := HE.out _ _ hown
    have HBE : Hid (Below B w w2) := HB.out.grown hgrow hB HGe.out
    clear hown hgrow hwh
    go_wp2
    go_ret
    exact ⟨_, rfl, HEnd, HBE⟩
/-- What a row is, with one extent laid in. -/
theorem flatE_ins (L : List (Int × Int)) (i : Nat) (x : Int × Int) : flatE (L.take i ++ x :: L.drop i) = flatE (L.take i) ++ ([.int .i64 x.1, .int .i64 x.2] ++ flatE (L.drop i)) := by
  rw [flatE_append]; rfl
theorem laid_in (cur D P X : List Value) (i n c : Nat) (hc : cur.length = c * 2) (hn : n + 1 ≤ c) (hi : i < n) (hD : D.length = (n - i) * 2) (hX : X.length = 2) (hP : P = cur.take (i * 2)) :
    (((cur.take ((i + 1) * 2) ++ D ++ cur.drop ((i + 1) * 2 + D.length)).take (i * 2) ++ X ++ (cur.take ((i + 1) * 2) ++ D ++ cur.drop ((i + 1) * 2 + D.length)).drop (i * 2 + X.length)).take ((n + 1) * 2)) = P ++ (X ++ D) ∧
    ((cur.take ((i + 1) * 2) ++ D ++ cur.drop ((i + 1) * 2 + D.length)).take (i * 2) ++ X ++ (cur.take ((i + 1) * 2) ++ D ++ cur.drop ((i + 1) * 2 + D.length)).drop (i * 2 + X.length)).length = c * 2 := by
  subst hP
  have l1 : (cur.take ((i + 1) * 2)).length = (i + 1) * 2 := by rw [List.length_take]; omega
  have e1 : (cur.take ((i + 1) * 2) ++ D ++ cur.drop ((i + 1) * 2 + D.length)).take (i * 2) = cur.take (i * 2) := by
    rw [List.append_assoc, List.take_append_of_le_length (by omega), List.take_take]
    congr 1; omega
  have e2 : (cur.take ((i + 1) * 2) ++ D ++ cur.drop ((i + 1) * 2 + D.length)).drop (i * 2 + X.length) = D ++ cur.drop ((i + 1) * 2 + D.length) := by
    rw [List.append_assoc, show i * 2 + X.length = (cur.take ((i + 1) * 2)).length by omega, List.drop_left]
  have l2 : (cur.take (i * 2)).length = i * 2 := by rw [List.length_take]; omega
  rw [e1, e2]
  constructor
  · have hl : (cur.take (i * 2) ++ (X ++ D)).length = (n + 1) * 2 := by simp only [List.length_append]; omega
    rw [show cur.take (i * 2) ++ X ++ (D ++ cur.drop ((i + 1) * 2 + D.length)) = (cur.take (i * 2) ++ (X ++ D)) ++ cur.drop ((i + 1) * 2 + D.length) by simp, ← hl, List.take_left]
  · simp only [List.length_append, List.length_drop]; omega
/-- slices.overlaps of what lies apart. -/
theorem overlaps_no {w : World} {vb g o lb cb : Nat} {cx cy : Array Value} (h1 : w.heap[vb]? = some (.cells cx 52 (0, 0))) (h2 : w.heap[g]? = some (.cells cy 52 (0, 0))) (hne : vb ≠ g) (hz : cy.size ≠ 0) :
    (callFunc 49 #[.slice (some ⟨vb, 0, none⟩) 1 1, .slice (some ⟨g, o, none⟩) lb cb]).run Try.prog w = .ok (.value (.bool false)) w := by
  obtain ⟨i0, hi, hz0, hz1, hz2⟩ := info_parts Try.infoX
  rw [run_callFunc_extern Try.func49 (by kernel_rfl) (by kernel_rfl) (by kernel_rfl) (e := Extern.SlicesOverlaps.overlaps #[48, 48] #[4]) (by kernel_rfl),
    Lib.run_overlaps_apart w 48 4 52 Try.underlying48 2 (fun w => by simp [sizeOf, typeInfo, hi, hz1]) ⟨vb, 0, none⟩ ⟨g, o, none⟩ 1 1 lb cb hne 52 52 cx.size cy.size (by simp [World.shape?, h1]) (by simp [World.shape?, h2]) hz (by simp [World.frozen?, h1]) (by simp [World.frozen?, h1])]
  rfl
set_option maxRecDepth 100000 in
set_option maxHeartbeats 4000000 in
/-- Within, where there is room. -/
theorem insert_room (L : List (Int × Int)) (x : Int × Int) (i g c vb B : Nat) (w : World) (h : OwnE B w (.slice (some ⟨g, 0, none⟩) L.length c) L) (hil : i < L.length) (hn : L.length ≤ 100000) (hc : L.length + 1 ≤ c) (hB : B ≤ w.heap.size) (hv : w.heap[vb]? = some (.cells #[.int .i64 x.1, .int .i64 x.2] 52 (0, 0))) (hne : vb ≠ g) :
    Calls Try.prog 30 #[.slice (some ⟨g, 0, none⟩) L.length c, .int .i64 (i : Int), .slice (some ⟨vb, 0, none⟩) 1 1] w fun e w' => ∃ u, e = .returned u ∧ Hid (OwnE B w' u (L.take i ++ x :: L.drop i)) ∧ Hid (Below B w w') := by
  have hfi := flatE_ins L i x
  rcases h.2 with ⟨e, _⟩ | ⟨g', cap, cur, e, hgB, hg, hnc, hcm, hcs, htk⟩
  · cases e
  obtain ⟨rfl, rfl⟩ : g = g' ∧ c = cap := by simpa using e
  have hhs : (Try.prog.info? 52).map (·.size) = some 2 := by
    obtain ⟨i0, hi, hz0, hz1, hz2⟩ := info_parts Try.infoX
    rw [hi]; simp [hz1]
  have hD : (flatE (L.drop i)).length = (L.length - i) * 2 := by rw [flatE_length, List.length_drop]
  have hP : flatE (L.take i) = cur.toList.take (i * 2) := by
    have e2 : cur.toList.take (i * 2) = (flatE L).take (i * 2) := by rw [← htk, List.take_take]; congr 1; omega
    rw [e2]
    conv => rhs; rw [← List.take_append_drop i L, flatE_append]
    rw [List.take_left' (by rw [flatE_length, List.length_take]; omega)]
  have hDc : ∀ j v, (flatE (L.drop i))[j]? = some v → w.cell? ((⟨g, i * 2, none⟩ : Addr).add j) = some v := fun j v hj => by
    have e2 : (flatE L)[i * 2 + j]? = some v := by
      conv => lhs; rw [← List.take_append_drop i L, flatE_append]
      rw [List.getElem?_append_right (by rw [flatE_length, List.length_take]; omega), flatE_length, List.length_take, show i * 2 + j - min i L.length * 2 = j by omega]
      exact hj
    rw [add_at, World.ownsRow.cellAt h (i * 2 + j) (by have := (List.getElem?_eq_some_iff.1 e2).1; rw [flatE_length] at this; exact this)]
    exact e2
  have hlaid := laid_in cur.toList (flatE (L.drop i)) (flatE (L.take i)) [.int .i64 x.1, .int .i64 x.2] i L.length c (by simpa using hcs) hc hil hD rfl hP
  have hDone := flatE_one (L.drop i)
  have HB := Lib.hid (Below.refl B w)
  obtain ⟨n, hl⟩ : ∃ n, L.length = n := ⟨_, rfl⟩
  have HE : Hid (∀ (w' : World) (row : Array Value), w'.heap[g]? = some (.cells row 52 (0, 0)) → row.size = c * 2 → row.toList.take ((n + 1) * 2) = flatE (L.take i) ++ ([.int .i64 x.1, .int .i64 x.2] ++ flatE (L.drop i)) → OwnE B w' (.slice (some ⟨g, 0, none⟩) (n + 1) c) (L.take i ++ x :: L.drop i)) := fun w' row h1 h2 h3 => by
    have hlen : (L.take i ++ x :: L.drop i).length = n + 1 := by simp; omega
    unfold OwnE
    rw [hlen, hfi]
    exact ⟨by simp only [List.length_append, flatE_length, List.length_take, List.length_drop, List.length_cons, List.length_nil]; omega, .inr ⟨g, c, row, rfl, hgB, h1, by omega, hcm, h2, h3⟩⟩
  rw [hl] at hil hn hc hlaid hD ⊢
  clear h hl hfi htk hP e
  generalize flatE (L.drop i) = D at *
  generalize flatE (L.take i) = P at *
  obtain ⟨x1, x2⟩ := x
  dsimp only at *
  have hov : ∀ W o lb cb, W.heap = w.heap → (callFunc 49 #[.slice (some ⟨vb, 0, none⟩) 1 1, .slice (some ⟨g, o, none⟩) lb cb]).run Try.prog W = .ok (.value (.bool false)) W := fun W o lb cb hW => overlaps_no (by rw [hW]; exact hv) (by rw [hW]; exact hg) hne (by omega)
  obtain ⟨row1, hr1⟩ : ∃ row1 : Array Value, row1 = (cur.toList.take ((i + 1) * 2) ++ D ++ cur.toList.drop ((i + 1) * 2 + D.length)).toArray := ⟨_, rfl⟩
  have hr1l : row1.toList = cur.toList.take ((i + 1) * 2) ++ D ++ cur.toList.drop ((i + 1) * 2 + D.length) := by rw [hr1]
  have hr1s : row1.size = c * 2 := by rw [← Array.length_toList, hr1l]; simp; omega
  have hmin : Nat.min (n - i) (n + 1 - (i + 1)) = n - i := by simp only [Nat.min_def]; split <;> omega
  have hcp1 : ∀ (W : World) ty dc sc dl sl, (∀ k, k < w.heap.size → W.heap[k]? = w.heap[k]?) → Nat.min sl dl = n - i → (Builtin.copy_ #[48, 48] ty #[.slice (some ⟨g, (i + 1) * 2, none⟩) dl dc, .slice (some ⟨g, i * 2, none⟩) sl sc]).run Try.prog W = .ok (goInt (n - i : Nat)) (W.setRow g row1) := fun W ty dc sc dl sl hW hmn => by
    have hgl := (Array.getElem?_eq_some_iff.1 hg).1
    rw [hr1, ← hmn]
    exact run_copy_wide W _ _ ty 52 2 g ((i + 1) * 2) dl dc ⟨g, i * 2, none⟩ sl sc cur 52 D Try.underlying48 hhs (by rw [hW g hgl]; exact hg) (by rw [hmn]; exact hD) (fun j v hj => by
      have := hDc j v hj
      rw [add_at] at this ⊢
      rw [World.cell?_of_block (w := w) (w' := W) (a := ⟨g, i * 2 + j, none⟩) (hW g hgl)]; exact this) (by omega) hDone
  have hcp2 : ∀ (W : World) ty dc dl, W.heap[g]? = some (.cells row1 52 (0, 0)) → W.heap[vb]? = some (.cells #[.int .i64 x1, .int .i64 x2] 52 (0, 0)) → Nat.min 1 dl = 1 → (Builtin.copy_ #[48, 48] ty #[.slice (some ⟨g, i * 2, none⟩) dl dc, .slice (some ⟨vb, 0, none⟩) 1 1]).run Try.prog W = .ok (goInt (1 : Nat)) (W.setRow g (row1.toList.take (i * 2) ++ [Value.int .i64 x1, Value.int .i64 x2] ++ row1.toList.drop (i * 2 + 2)).toArray) := fun W ty dc dl h1 h2 hmn => by
    have := run_copy_wide (P := Try.prog) W 48 48 ty 52 2 g (i * 2) dl dc ⟨vb, 0, none⟩ 1 1 row1 52 [Value.int .i64 x1, Value.int .i64 x2] Try.underlying48 hhs h1 (by rw [hmn]; rfl) (two_cellsE h2) (by simp; omega) (two_oneE _ _)
    rw [hmn] at this
    exact this
  have HFin : Hid (∀ W : World, W.heap[g]? = some (.cells row1 52 (0, 0)) → OwnE B (W.setRow g (row1.toList.take (i * 2) ++ [Value.int .i64 x1, Value.int .i64 x2] ++ row1.toList.drop (i * 2 + 2)).toArray) (.slice (some ⟨g, 0, none⟩) (n + 1) c) (L.take i ++ (x1, x2) :: L.drop i)) := fun W hq => by
    refine HE.out _ _ (setRow_heap W g row1 _ 52 _ hq) ?_ ?_
    · rw [← Array.length_toList, hr1l]; exact hlaid.2
    · show List.take _ (_ ++ _ ++ _) = _
      rw [hr1l]; exact hlaid.1
  have HB1 : Hid (∀ W W' : World, Below B w W → W' = W.setRow g row1 → Below B w W') := fun W W' h e => by rw [e]; exact below_setRow h hgB _
  have HB2 : Hid (∀ W : World, Below B w W → Below B w (W.setRow g (row1.toList.take (i * 2) ++ [Value.int .i64 x1, Value.int .i64 x2] ++ row1.toList.drop (i * 2 + 2)).toArray)) := fun W h => below_setRow h hgB _
  generalize (row1.toList.take (i * 2) ++ [Value.int .i64 x1, Value.int .i64 x2] ++ row1.toList.drop (i * 2 + 2)).toArray = row2 at *
  have HG1 : Hid (∀ W : World, W.heap = w.heap → (W.setRow g row1).heap[g]? = some (.cells row1 52 (0, 0)) ∧ (W.setRow g row1).heap[vb]? = some (.cells #[.int .i64 x1, .int .i64 x2] 52 (0, 0))) := fun W h => ⟨setRow_heap W g cur _ 52 _ (by rw [h]; exact hg), (setRow_other W g vb _ hne).trans (by rw [h]; exact hv)⟩
  have hin : (i : Int) ≤ (n : Int) := by omega
  have hz2 : ¬ ((i : Int) = (n : Int)) := by omega
  have hw1 : IntKind.i64.wrap ((i : Int) + 1) = (i : Int) + 1 := IntWalk.i64_in _ (by omega)
  have hw2 : IntKind.i64.wrap ((n : Int) + 1) = (n : Int) + 1 := IntWalk.i64_in _ (by omega)
  have hb1 : (0 : Int) ≤ (i : Int) + 1 := by omega
  have htn : ((i : Int) + 1).toNat = i + 1 := by omega
  have htn2 : ((n : Int) + 1).toNat = n + 1 := by omega
  have hb2 : ¬ (c = i + 1) := by omega
  have hb3 : (i : Int) ≤ (n : Int) + 1 := by omega
  have hb4 : ¬ (c = i) := by omega
  have hb5 : ¬ ((c : Int) < (n : Int) + 1) := by omega
  have hb6 : (n : Int) + 1 ≤ (c : Int) := by omega
  have hb7 : (i : Int) + 1 ≤ (n : Int) + 1 := by omega
  have hb8 : (0 : Int) ≤ (n : Int) + 1 := by omega
  have hm1 : Nat.min (n + 1 - i) (n - i) = n - i := by simp only [Nat.min_def]; split <;> omega
  have hm2 : Nat.min 1 (n + 1 - i) = 1 := by simp only [Nat.min_def]; split <;> omega
  clear hlaid hr1 hr1l hr1s hmin hDc hD hDone hhs hcs hcm HE
  go_enter Try.func30, Try.ntmps30
  go_wp2_with fail
  go_region_law (refine step_run rfl (ex_copy rfl (x := .slice (some ⟨g, (i + 1) * 2, none⟩) (n - i) (c - (i + 1))) (y := .slice (some ⟨g, i * 2, none⟩) (n + 1 - i) (c - i)) (by kernel_rfl) (by kernel_rfl) (hcp1 _ _ _ _ _ _ (fun _ _ => rfl) hm1)) ?_)
  have hbel : Below B w (w.drew.setRow g row1) := HB1.out _ _ (Below.refl B w).drew rfl
  obtain ⟨hrow, hvb⟩ := HG1.out w.drew rfl
  generalize w.drew.setRow g row1 = W2 at *
  have HH := Lib.hid (HFin.out W2 hrow)
  have HBE := Lib.hid (HB2.out W2 hbel)
  have hcp3 := fun ty dc => hcp2 W2 ty dc (n + 1 - i) hrow hvb hm2
  clear hcp2 hcp1 hov HFin HB1 HB2 HG1 hrow hvb hbel hg hv
  go_wp2_with (at_builtin; refine wpList_runs rfl (ex_copy rfl rfl rfl (hcp3 _ _)) ?_)
  go_ret
  exact ⟨_, rfl, HH, HBE⟩
theorem laid_in2 (ROW D P X : List Value) (i n G : Nat) (hc : ROW.length = G * 2) (hn : n + 1 ≤ G) (hi : i < n) (hD : D.length = (n - i) * 2) (hX : X.length = 2) (hP : ROW.take (i * 2) = P) :
    (((ROW.take (i * 2) ++ X ++ ROW.drop (i * 2 + X.length)).take ((i + 1) * 2) ++ D ++ (ROW.take (i * 2) ++ X ++ ROW.drop (i * 2 + X.length)).drop ((i + 1) * 2 + D.length)).take ((n + 1) * 2)) = P ++ (X ++ D) ∧
    ((ROW.take (i * 2) ++ X ++ ROW.drop (i * 2 + X.length)).take ((i + 1) * 2) ++ D ++ (ROW.take (i * 2) ++ X ++ ROW.drop (i * 2 + X.length)).drop ((i + 1) * 2 + D.length)).length = G * 2 ∧ (ROW.take (i * 2) ++ X ++ ROW.drop (i * 2 + X.length)).length = G * 2 := by
  have lP : P.length = i * 2 := by rw [← hP, List.length_take]; omega
  rw [hP]
  have e1 : (P ++ X ++ ROW.drop (i * 2 + X.length)).take ((i + 1) * 2) = P ++ X := by
    rw [show (i + 1) * 2 = (P ++ X).length by simp; omega, List.take_left]
  have l2 : (P ++ X ++ ROW.drop (i * 2 + X.length)).length = G * 2 := by simp only [List.length_append, List.length_drop]; omega
  refine ⟨?_, ?_, l2⟩
  · rw [e1, show (n + 1) * 2 = (P ++ X ++ D).length by simp only [List.length_append]; omega, List.take_left]
    simp
  · rw [e1]; simp only [List.length_append, List.length_drop]; omega
set_option maxRecDepth 100000 in
set_option maxHeartbeats 4000000 in
/-- Within, where there is no room. -/
theorem insert_grow (L : List (Int × Int)) (x : Int × Int) (i g vb B : Nat) (w : World) (h : OwnE B w (.slice (some ⟨g, 0, none⟩) L.length L.length) L) (hil : i < L.length) (hn : L.length ≤ 100000) (hB : B ≤ w.heap.size) (hv : w.heap[vb]? = some (.cells #[.int .i64 x.1, .int .i64 x.2] 52 (0, 0))) :
    Calls Try.prog 30 #[.slice (some ⟨g, 0, none⟩) L.length L.length, .int .i64 (i : Int), .slice (some ⟨vb, 0, none⟩) 1 1] w fun e w' => ∃ u, e = .returned u ∧ Hid (OwnE B w' u (L.take i ++ x :: L.drop i)) ∧ Hid (Below B w w') := by
  have hfi := flatE_ins L i x
  obtain ⟨i0, hi0, hz0, hz1, hz2⟩ := info_parts Try.infoX
  have hhs : (Try.prog.info? 52).map (·.size) = some 2 := by rw [hi0]; simp [hz1]
  have hgl : g < w.heap.size := by
    rcases h.2 with ⟨e, _⟩ | ⟨g', cap, cur, e, _, hg, _⟩
    · cases e
    · obtain ⟨rfl, _⟩ : g = g' ∧ L.length = cap := by simpa using e
      exact (Array.getElem?_eq_some_iff.1 hg).1
  have hcells : ∀ j v, (flatE L)[j]? = some v → w.cell? ⟨g, j, none⟩ = some v := fun j v hj => by
    rw [World.ownsRow.cellAt h j (by have := (List.getElem?_eq_some_iff.1 hj).1; rw [flatE_length] at this; exact this)]
    exact hj
  have hsplit : flatE L = flatE (L.take i) ++ flatE (L.drop i) := by rw [← flatE_append, List.take_append_drop]
  have lP : (flatE (L.take i)).length = i * 2 := by rw [flatE_length, List.length_take]; omega
  have hD : (flatE (L.drop i)).length = (L.length - i) * 2 := by rw [flatE_length, List.length_drop]
  have hPc : ∀ j v, (flatE (L.take i))[j]? = some v → w.cell? ⟨g, j, none⟩ = some v := fun j v hj => hcells j v (by rw [hsplit, List.getElem?_append_left (List.getElem?_eq_some_iff.1 hj).1]; exact hj)
  have hDc : ∀ j v, (flatE (L.drop i))[j]? = some v → w.cell? ⟨g, i * 2 + j, none⟩ = some v := fun j v hj => hcells _ v (by rw [hsplit, List.getElem?_append_right (by omega), lP, show i * 2 + j - i * 2 = j by omega]; exact hj)
  have hDone := flatE_one (L.drop i)
  have hvl := (Array.getElem?_eq_some_iff.1 hv).1
  have HB := Lib.hid (Below.refl B w)
  obtain ⟨n, hl⟩ : ∃ n, L.length = n := ⟨_, rfl⟩
  have HE : Hid (∀ (w' : World) (row : Array Value) (G : Nat), w'.heap[w.heap.size]? = some (.cells row 52 (0, 0)) → n + 1 ≤ G → G ≤ maxLen → row.size = G * 2 → row.toList.take ((n + 1) * 2) = flatE (L.take i) ++ ([.int .i64 x.1, .int .i64 x.2] ++ flatE (L.drop i)) → OwnE B w' (.slice (some ⟨w.heap.size, 0, none⟩) (n + 1) G) (L.take i ++ x :: L.drop i)) := fun w' row G h1 h4 h5 h2 h3 => by
    have hlen : (L.take i ++ x :: L.drop i).length = n + 1 := by simp; omega
    unfold OwnE
    rw [hlen, hfi]
    exact ⟨by simp only [List.length_append, flatE_length, List.length_take, List.length_drop, List.length_cons, List.length_nil]; omega, .inr ⟨w.heap.size, G, row, rfl, hB, h1, h4, h5, h2, h3⟩⟩
  rw [hl] at hil hn hD ⊢
  clear h hl hfi hcells hsplit
  generalize flatE (L.drop i) = D at *
  generalize flatE (L.take i) = P at *
  obtain ⟨x1, x2⟩ := x
  dsimp only at *
  have hold : (Builtin.firstCells i0.size i (.slice (some ⟨g, 0, none⟩) i n)).run Try.prog w.drew = .ok P.toArray w.drew := by
    rw [hz1]
    exact run_firstCells_some w.drew 2 i ⟨g, 0, none⟩ i n P lP (fun j v hj => by rw [add_at, Nat.zero_add]; exact hPc j v hj)
  have hkk : (n : Int) + 1 - (i : Int) = ((n + 1 - i : Nat) : Int) := by omega
  have hik : i + (n + 1 - i) = n + 1 := by omega
  have hrz : ∀ ty, (Builtin.append_ #[48, 3] ty #[.slice (some ⟨g, 0, none⟩) i n, .int .i64 ((n : Int) + 1 - (i : Int))]).run Try.prog w = .ok (.slice (some ⟨w.heap.size, 0, none⟩) (n + 1) (grownCap w (n + 1) n 52)) (w.drew.alloc (.cells (P.toArray ++ Builtin.zeroCells (Value.agg #[.int .i64 0, .int .i64 0]).cells (n + 1 - i) ++ Builtin.zeroCells (Value.agg #[.int .i64 0, .int .i64 0]).cells (grownCap w (n + 1) n 52 - (n + 1))) 52)) := fun ty => by
    have h := Lib.run_append_grow_zeros (P := Try.prog) w 48 3 ty 52 i0 _ .i64 .i64 Try.underlying48 Try.underlying3 hi0 hz0 (some ⟨g, 0, none⟩) i n P hold (n + 1 - i) (by omega) (by omega) (by omega) (by omega) (by rw [hz2]; omega) (by rw [hz2, hik]; exact growslice_fits (by omega) (by omega))
    rw [hik] at h
    rw [hkk]
    exact h
  have hGn : n + 1 ≤ grownCap w (n + 1) n 52 := grownCap_ge w _ _ _
  have hG63 : grownCap w (n + 1) n 52 ≤ maxLen := grownCap_le_maxLen w (n + 1) n 52 (by unfold maxLen; omega)
  generalize grownCap w (n + 1) n 52 = G at *
  obtain ⟨ROW, hROW⟩ : ∃ ROW : Array Value, ROW = P.toArray ++ Builtin.zeroCells (Value.agg #[.int .i64 0, .int .i64 0]).cells (n + 1 - i) ++ Builtin.zeroCells (Value.agg #[.int .i64 0, .int .i64 0]).cells (G - (n + 1)) := ⟨_, rfl⟩
  have hRs : ROW.size = G * 2 := by rw [hROW]; simp [Builtin.zeroCells, Value.cells]; omega
  have hRP : ROW.toList.take (i * 2) = P := by rw [hROW]; simp only [Array.toList_append, List.append_assoc]; rw [← lP, List.take_left]
  rw [← hROW] at hrz
  clear hROW hkk hik hold hPc
  have hlaid := laid_in2 ROW.toList D P [Value.int .i64 x1, Value.int .i64 x2] i n G (by simpa using hRs) hGn hil hD rfl hRP
  obtain ⟨W1, hW1⟩ : ∃ W1, W1 = w.drew.alloc (.cells ROW 52) := ⟨_, rfl⟩
  have hN1 : W1.heap[w.heap.size]? = some (.cells ROW 52 (0, 0)) := by rw [hW1]; exact heap_alloc_new w.drew (.cells ROW 52)
  have hlow : ∀ k, k < w.heap.size → W1.heap[k]? = w.heap[k]? := fun k hk => by
    rw [hW1]; exact (((Below.refl w.heap.size w).drew.alloc (Nat.le_refl _) _).block k hk)
  have hB1 : Below B w W1 := by rw [hW1]; exact (Below.refl B w).drew.alloc hB _
  rw [← hW1] at hrz
  obtain ⟨r1, hr1⟩ : ∃ r1 : Array Value, r1 = (ROW.toList.take (i * 2) ++ [Value.int .i64 x1, Value.int .i64 x2] ++ ROW.toList.drop (i * 2 + 2)).toArray := ⟨_, rfl⟩
  have hr1l : r1.toList = ROW.toList.take (i * 2) ++ [Value.int .i64 x1, Value.int .i64 x2] ++ ROW.toList.drop (i * 2 + 2) := by rw [hr1]
  have hr1s : r1.size = G * 2 := by rw [← Array.length_toList, hr1l]; exact hlaid.2.2
  have hm1 : Nat.min 1 (n + 1 - i) = 1 := by simp only [Nat.min_def]; split <;> omega
  have hm2 : Nat.min (n - i) (n - i) = n - i := by simp
  have hcpA : ∀ ty dc, (Builtin.copy_ #[48, 48] ty #[.slice (some ⟨w.heap.size, i * 2, none⟩) (n + 1 - i) dc, .slice (some ⟨vb, 0, none⟩) 1 1]).run Try.prog W1 = .ok (goInt (1 : Nat)) (W1.setRow w.heap.size r1) := fun ty dc => by
    have := run_copy_wide (P := Try.prog) W1 48 48 ty 52 2 w.heap.size (i * 2) (n + 1 - i) dc ⟨vb, 0, none⟩ 1 1 ROW 52 [.int .i64 x1, .int .i64 x2] Try.underlying48 hhs hN1 (by rw [hm1]; rfl) (two_cellsE ((hlow vb hvl).trans hv)) (by simp; omega) (two_oneE _ _)
    rw [hm1] at this
    rw [hr1]; exact this
  have hN2 : (W1.setRow w.heap.size r1).heap[w.heap.size]? = some (.cells r1 52 (0, 0)) := setRow_heap W1 _ ROW _ 52 _ hN1
  have hg2 : (W1.setRow w.heap.size r1).heap[g]? = w.heap[g]? := (setRow_other W1 _ g _ (by omega)).trans (hlow g hgl)
  have hB2 : Below B w (W1.setRow w.heap.size r1) := below_setRow hB1 hB _
  obtain ⟨W2, hW2⟩ : ∃ W2, W2 = W1.setRow w.heap.size r1 := ⟨_, rfl⟩
  rw [← hW2] at hcpA hN2 hg2 hB2
  obtain ⟨r2, hr2⟩ : ∃ r2 : Array Value, r2 = (r1.toList.take ((i + 1) * 2) ++ D ++ r1.toList.drop ((i + 1) * 2 + D.length)).toArray := ⟨_, rfl⟩
  have hr2l : r2.toList = r1.toList.take ((i + 1) * 2) ++ D ++ r1.toList.drop ((i + 1) * 2 + D.length) := by rw [hr2]
  have hcpB : ∀ ty dc sc, (Builtin.copy_ #[48, 48] ty #[.slice (some ⟨w.heap.size, (i + 1) * 2, none⟩) (n - i) dc, .slice (some ⟨g, i * 2, none⟩) (n - i) sc]).run Try.prog W2.drew = .ok (goInt (n - i : Nat)) (W2.drew.setRow w.heap.size r2) := fun ty dc sc => by
    have := run_copy_wide (P := Try.prog) W2.drew 48 48 ty 52 2 w.heap.size ((i + 1) * 2) (n - i) dc ⟨g, i * 2, none⟩ (n - i) sc r1 52 D Try.underlying48 hhs hN2 (by rw [hm2]; exact hD) (fun j v hj => by
      rw [add_at, World.cell?_of_block (w := w) (w' := W2.drew) (a := ⟨g, i * 2 + j, none⟩) hg2]; exact hDc j v hj) (by omega) hDone
    rw [hm2] at this
    rw [hr2]; exact this
  have HH : Hid (OwnE B (W2.drew.setRow w.heap.size r2) (.slice (some ⟨w.heap.size, 0, none⟩) (n + 1) G) (L.take i ++ (x1, x2) :: L.drop i)) := by
    refine HE.out _ r2 G (setRow_heap W2.drew _ r1 _ 52 _ hN2) hGn hG63 ?_ ?_
    · rw [← Array.length_toList, hr2l, hr1l]; exact hlaid.2.1
    · rw [hr2l, hr1l]; exact hlaid.1
  have HBE : Hid (Below B w (W2.drew.setRow w.heap.size r2)) := below_setRow hB2.drew hB _
  have hin : (i : Int) ≤ (n : Int) := by omega
  have hz2' : ¬ ((i : Int) = (n : Int)) := by omega
  have hw1 : IntKind.i64.wrap ((i : Int) + 1) = (i : Int) + 1 := IntWalk.i64_in _ (by omega)
  have hw2 : IntKind.i64.wrap ((n : Int) + 1) = (n : Int) + 1 := IntWalk.i64_in _ (by omega)
  have hw3 : IntKind.i64.wrap ((n : Int) + 1 - (i : Int)) = (n : Int) + 1 - (i : Int) := IntWalk.i64_in _ (by omega)
  have hb1 : (0 : Int) ≤ (i : Int) + 1 := by omega
  have htn : ((i : Int) + 1).toNat = i + 1 := by omega
  have hb2 : ¬ (G = i + 1) := by omega
  have hb3 : (i : Int) ≤ (n : Int) + 1 := by omega
  have hb4 : ¬ (G = i) := by omega
  have hb5 : (n : Int) < (n : Int) + 1 := by omega
  have hb7 : (i : Int) + 1 ≤ (n : Int) + 1 := by omega
  have hb9 : ¬ (n = i) := by omega
  clear hlaid hr1 hr1l hr1s hr2 hr2l hN1 hlow hB1 hN2 hg2 hB2 hDc hD hDone hhs HE hW1 hW2 hRs hRP hv hi0 hz0 hz1 hz2 hGn hG63
  go_enter Try.func30, Try.ntmps30
  go_wp2_with (at_builtin; first
    | refine wpList_runs rfl (ex_append rfl rfl rfl (hrz _)) ?_
    | refine wpList_runs rfl (ex_copy rfl rfl rfl (hcpA _ _)) ?_)
  go_region_law (refine step_run rfl (ex_copy rfl (x := .slice (some ⟨w.heap.size, (i + 1) * 2, none⟩) (n - i) (G - (i + 1))) (y := .slice (some ⟨g, i * 2, none⟩) (n - i) (n - i)) (by kernel_rfl) (by kernel_rfl) (hcpB _ _ _)) ?_)
  go_wp2
  go_ret
  exact ⟨_, rfl, HH, HBE⟩
/-- One extent is laid in at its place. -/
theorem insert_any (L : List (Int × Int)) (v : Value) (x : Int × Int) (i vb B : Nat) (w : World) (h : OwnE B w v L) (hil : i ≤ L.length) (hn : L.length ≤ 100000) (hB : B ≤ w.heap.size) (hv : w.heap[vb]? = some (.cells #[.int .i64 x.1, .int .i64 x.2] 52 (0, 0))) (hne : v.ownBlock ≠ some vb) :
    Calls Try.prog 30 #[v, .int .i64 (i : Int), .slice (some ⟨vb, 0, none⟩) 1 1] w fun e w' => ∃ u, e = .returned u ∧ Hid (OwnE B w' u (L.take i ++ x :: L.drop i)) ∧ Hid (Below B w w') := by
  by_cases hi : i < L.length
  · obtain ⟨g, c, rfl, hc, _⟩ := h.here (by omega)
    by_cases hr : L.length + 1 ≤ c
    · exact insert_room L x i g c vb B w h hi hn hr hB hv (fun e => hne (by rw [e]; rfl))
    · obtain rfl : c = L.length := by omega
      exact insert_grow L x i g vb B w h hi hn hB hv
  · obtain rfl : i = L.length := by omega
    rw [List.take_length, List.drop_length]
    exact insert_end L v x vb B w h hn hB hv
end Go.Proofs.Ytfmnbabkdpiboaa
/- What Right answers. -/
namespace Go.Proofs.Ytfmnbabkdpiboaa
open Go.RowKit
open Fr (below_drewN)

theorem Used.nil : Used [] := ⟨by simp, by simp, by simp, by simp⟩
theorem Used.ins {U : List (Int × Int)} {x : Int × Int} {k : Nat} (hu : Used U) (hp : PlaceE U x.1 k) (hr : roomB U x k = true) (hx : 1 ≤ x.2) (hf : I64 x.1 ∧ I64 (x.1 + x.2)) : Used (U.take k ++ x :: U.drop k) := by
  have hap := (roomB_iff hu hp hx).1 hr
  have hT : ∀ y ∈ U.take k, y ∈ U ∧ y.1 < x.1 := fun y hy => by
    obtain ⟨j, hj, rfl⟩ := List.getElem_of_mem hy
    rw [List.length_take] at hj
    rw [List.getElem_take]
    exact ⟨List.getElem_mem _, hp.lo j (by omega) (by omega)⟩
  have hD : ∀ y ∈ U.drop k, y ∈ U ∧ x.1 < y.1 := fun y hy => by
    obtain ⟨j, hj, rfl⟩ := List.getElem_of_mem hy
    rw [List.length_drop] at hj
    rw [List.getElem_drop]
    have h1 := hp.hi (k + j) (by omega) (by omega)
    have h2 := hap _ (List.getElem_mem (l := U) (n := k + j) (by omega))
    have h3 := hu.some _ (List.getElem_mem (l := U) (n := k + j) (by omega))
    refine ⟨List.getElem_mem _, ?_⟩
    rcases h2 with h2 | h2 <;> omega
  have hr0 := hu.rise
  have ha0 := hu.apart
  rw [← List.take_append_drop k U] at hr0 ha0
  obtain ⟨r1, r2, r3⟩ := List.pairwise_append.1 hr0
  obtain ⟨a1, a2, a3⟩ := List.pairwise_append.1 ha0
  refine ⟨List.pairwise_append.2 ⟨r1, List.pairwise_cons.2 ⟨fun y hy => (hD y hy).2, r2⟩, fun y hy z hz => ?_⟩, List.pairwise_append.2 ⟨a1, List.pairwise_cons.2 ⟨fun y hy => (hap y (hD y hy).1).symm, a2⟩, fun y hy z hz => ?_⟩, fun y hy => ?_, fun y hy => ?_⟩
  · rcases List.mem_cons.1 hz with rfl | hz
    · exact (hT y hy).2
    · exact r3 y hy z hz
  · rcases List.mem_cons.1 hz with rfl | hz
    · exact hap y (hT y hy).1
    · exact a3 y hy z hz
  · rcases List.mem_append.1 hy with hy | hy
    · exact hu.some y (hT y hy).1
    · rcases List.mem_cons.1 hy with rfl | hy
      · exact hx
      · exact hu.some y (hD y hy).1
  · rcases List.mem_append.1 hy with hy | hy
    · exact hu.fit y (hT y hy).1
    · rcases List.mem_cons.1 hy with rfl | hy
      · exact hf
      · exact hu.fit y (hD y hy).1
/-- On the way through a file's extents. -/
structure InSt (P E : List (Int × Int)) (a b : Int) (j : Nat) (U : List (Int × Int)) : Prop where
  used : Used U
  perm : U.Perm (P ++ E.take j)
  among : ∀ x ∈ E.take j, Among x a b
theorem InSt.ins {P E : List (Int × Int)} {a b : Int} {j : Nat} {U : List (Int × Int)} (h : InSt P E a b j U) (hj : j < E.length) {k : Nat} (hp : PlaceE U E[j].1 k) (hr : roomB U E[j] k = true) (hx : 1 ≤ E[j].2) (hf : I64 E[j].1 ∧ I64 (E[j].1 + E[j].2)) (ha : Among E[j] a b) : InSt P E a b (j + 1) (U.take k ++ E[j] :: U.drop k) := by
  refine ⟨h.used.ins hp hr hx hf, ?_, fun x hx => ?_⟩
  · rw [List.take_succ_eq_append_getElem hj, ← List.append_assoc]
    refine List.perm_middle.trans ?_
    rw [List.take_append_drop]
    exact (List.perm_append_comm (l₁ := [E[j]]) (l₂ := U)).trans (h.perm.append_right _)
  · rw [List.take_succ_eq_append_getElem hj] at hx
    rcases List.mem_append.1 hx with hx | hx
    · exact h.among x hx
    · rw [List.mem_singleton.1 hx]; exact ha
theorem own_ltE {w : World} {B : Nat} {e : TypeId} {k n : Nat} {r : Value} {xs : List Value} (h : w.ownsRow B e k r n xs) {q : Nat} (hq : r.ownBlock = some q) : q < w.heap.size := by
  rcases h.2 with ⟨rfl, _⟩ | ⟨g, cap, cur, rfl, _, hg, _⟩
  · cases hq
  · simp [Value.ownBlock] at hq; subst hq; exact (Array.getElem?_eq_some_iff.1 hg).1
theorem allE_take (L : List Fl) (k : Nat) (h : k < L.length) : allE (L.take (k + 1)) = allE (L.take k) ++ L[k].ext := by
  rw [List.take_succ_eq_append_getElem h, allE_append]; simp [allE]
theorem allE_len (L : List Fl) (h : ∀ f ∈ L, f.ext.length ≤ 16) : (allE L).length ≤ 16 * L.length := by
  induction L with
  | nil => simp [allE]
  | cons f r ih =>
    rw [allE_cons, List.length_append, List.length_cons]
    have := h f (by simp)
    have := ih fun g hg => h g (by simp [hg])
    omega
theorem Right0.among_at {L : List Fl} {a b : Int} (h : Right0 L a b) {k j : Nat} (hk : k < L.length) (hj : j < (L[k]).ext.length) : Among ((L[k]).ext[j]) a b :=
  h.among _ (List.mem_flatMap.2 ⟨L[k], List.getElem_mem hk, List.getElem_mem hj⟩)
theorem Right0.apart_at {L : List Fl} {a b : Int} (h : Right0 L a b) {k j : Nat} (hk : k < L.length) (hj : j < (L[k]).ext.length) : ∀ y ∈ allE (L.take k) ++ (L[k]).ext.take j, Apart y ((L[k]).ext[j]) := by
  have hp := h.apart
  have e : allE L = allE (L.take k) ++ (L[k].ext ++ allE (L.drop (k + 1))) := by
    conv => lhs; rw [← List.take_append_drop k L, allE_append, List.drop_eq_getElem_cons hk, allE_cons]
  have e2 : L[k].ext = L[k].ext.take j ++ (L[k].ext[j] :: L[k].ext.drop (j + 1)) := by
    conv => lhs; rw [← List.take_append_drop j L[k].ext, List.drop_eq_getElem_cons hj]
  rw [e, e2, List.append_assoc, ← List.append_assoc] at hp
  intro y hy
  exact (List.pairwise_append.1 hp).2.2 y hy L[k].ext[j] (List.mem_append_left _ (List.mem_cons_self ..))
theorem Right0.next {L : List Fl} {a b : Int} {k : Nat} (h : Right0 (L.take k) a b) (hk : k < L.length) (hr : ∀ q, k = q + 1 → ∀ h : q < L.length, less L[q].name L[k].name = true) (hn : okName L[k].name = true) (hf : Filled L[k]) {U : List (Int × Int)} (hi : InSt (allE (L.take k)) L[k].ext a b L[k].ext.length U) : Right0 (L.take (k + 1)) a b := by
  have hp := hi.perm
  rw [List.take_length] at hp
  have ha := hi.among
  rw [List.take_length] at ha
  have hap : (allE (L.take k) ++ L[k].ext).Pairwise Apart := (List.Perm.pairwise_iff (fun h => Apart.symm h) hp).1 hi.used.apart
  obtain ⟨_, p2, p3⟩ := List.pairwise_append.1 hap
  rw [List.take_succ_eq_append_getElem hk]
  refine h.snoc hn (fun g hg => ?_) hf ha p2 p3
  obtain ⟨q, hq, rfl⟩ := List.getElem_of_mem hg
  rw [List.length_take] at hq
  rw [List.getElem_take]
  obtain ⟨m, rfl⟩ : ∃ m, k = m + 1 := ⟨k - 1, by omega⟩
  have h1 := hr m rfl (by omega)
  by_cases e : q = m
  · subst e; exact h1
  · have := List.pairwise_iff_getElem.1 h.rise q m (by simp; omega) (by simp; omega) (by omega)
    rw [List.getElem_take, List.getElem_take] at this
    exact less_trans this h1
theorem SlF.shape {w : World} {v : Value} {L : List Fl} (h : SlF w v L) : ∃ ao c, v = .slice ao L.length c ∧ (∀ W, Below w.heap.size w W → ∀ k (hk : k < L.length), ∃ b off ve, ao = some ⟨b, off, none⟩ ∧ FileAt W b (off + k * 4) L[k] ve ∧ SlE w ve L[k].ext) := by
  obtain ⟨ao, c, rfl, hc, h⟩ := h
  refine ⟨ao, c, rfl, fun W hW k hk => ?_⟩
  rcases h with h | ⟨b, off, e, hlt, h⟩
  · subst h; simp at hk
  · obtain ⟨ve, hf⟩ := h k hk
    exact ⟨b, off, ve, e, hf.below hW hlt, hf.ext⟩
set_option maxRecDepth 100000 in
set_option maxHeartbeats 8000000 in
theorem right_any (L : List Fl) (v : Value) (a b : Int) (w : World) (h : SlF w v L) (hN : Nums64 L) (hn : L.length ≤ 9223372036854775807) (ha : I64 a) (hb : I64 b) : Calls Try.prog 14 #[v, .int .i64 a, .int .i64 b] w fun e w' => e = .returned (.bool (rtB L a b)) ∧ Below w.heap.size w w' := by
  obtain ⟨ao, c, rfl, hat⟩ := h.shape
  have HAt := Lib.hid hat; clear hat h
  have HB := Lib.hid (Below.refl w.heap.size w)
  have HR := Lib.hid (rtB_iff L a b)
  obtain ⟨r, hr⟩ : ∃ r, rtB L a b = r := ⟨_, rfl⟩
  rw [hr] at HR ⊢
  clear hr
  have HNum := Lib.hid hN; clear hN
  obtain ⟨n, hl⟩ : ∃ n, L.length = n := ⟨_, rfl⟩
  have HN := Lib.hid hl
  rw [hl] at hn ⊢
  clear hl
  by_cases h64 : 64 < n
  · have z1 : (64 : Int) < (n : Int) := by omega
    obtain rfl : r = false := bool_false HR.out (fun h => by have := h.1; have := HN.out; omega)
    clear HR
    go_enter Try.func14, Try.ntmps14
    go_wp2
    go_ret
    exact ⟨rfl, HB.out⟩
  · have z1 : ¬ ((64 : Int) < (n : Int)) := by omega
    go_enter Try.func14, Try.ntmps14
    go_wp2_with fail
    go_loopw [7, 20] (fun uv kv wr => ∃ (k : Nat) (U : List (Int × Int)), k ≤ n ∧ kv = .int .i64 (k : Int) ∧ Hid (OwnE w.heap.size wr uv U) ∧ Hid (Used U) ∧ Hid (U.Perm (allE (L.take k))) ∧ Hid (Right0 (L.take k) a b) ∧ Hid (Below w.heap.size w wr)) (fun _ kv _ => n - (intOf kv).toNat)
    case atStart => exact ⟨0, [], Nat.zero_le _, rfl, OwnE.nil _ _, Used.nil, (by show List.Perm [] (allE []); simp [allE]), Right0.nil a b, HB⟩
    case round =>
      obtain ⟨k, U, hk, rfl, HO, HU, HP, H0, HBr⟩ := hrel
      obtain ⟨wo, hwo⟩ : ∃ W, W = wr := ⟨_, rfl⟩
      subst hwo
      have hbr := HBr.out.size
      obtain ⟨ua, uc, huv⟩ := own_shapeE HO.out
      subst huv
      by_cases hlt : k < n
      · have hkz : (k : Int) < (n : Int) := by omega
        have hkL : k < L.length := by rw [HN.out]; exact hlt
        obtain ⟨bb, off, ve, rfl, hF, hFe⟩ := HAt.out _ HBr.out k hkL
        have HFl := Lib.hid hF
        have HSE := Lib.hid hFe
        obtain ⟨eo, ec, hve, hae⟩ := hFe.shape
        subst hve
        have HAe := Lib.hid hae; clear hae hFe
        obtain ⟨x0, x1, x2, x3, _⟩ := hF
        have hnf := HNum.out L[k] (List.getElem_mem hkL)
        have HNa := Lib.hid fun W => name_any L[k].name W hnf.1
        have HFi := Lib.hid fun W hW => filled_any L[k] (.slice eo L[k].ext.length ec) W hnf.2.1 hnf.2.2 (HSE.out.below hW)
        have HIn := Lib.hid hnf.2.2
        have HRn : Hid (r = true → okName L[k].name = true) := fun h => (HR.out.1 h).2.names _ (List.getElem_mem hkL)
        have HRf : Hid (r = true → fdB L[k] = true) := fun h => (fdB_iff _).2 ((HR.out.1 h).2.filled _ (List.getElem_mem hkL))
        have HFf : Hid (fdB L[k] = true → Filled L[k]) := (fdB_iff _).1
        have HRr : Hid (r = true → ∀ q, k = q + 1 → ∀ h : q < L.length, less L[q].name L[k].name = true) := fun h q hq hql => List.pairwise_iff_getElem.1 (HR.out.1 h).2.rise q k hql hkL (by omega)
        have HRa : Hid (r = true → ∀ j (hj : j < L[k].ext.length), Among L[k].ext[j] a b) := fun h j hj => (HR.out.1 h).2.among_at hkL hj
        have HRp : Hid (r = true → ∀ j (hj : j < L[k].ext.length), ∀ y ∈ allE (L.take k) ++ L[k].ext.take j, Apart y L[k].ext[j]) := fun h j hj => (HR.out.1 h).2.apart_at hkL hj
        have HNx : Hid ((∀ q, k = q + 1 → ∀ h : q < L.length, less L[q].name L[k].name = true) → okName L[k].name = true → Filled L[k] → ∀ U, InSt (allE (L.take k)) L[k].ext a b L[k].ext.length U → Right0 (L.take (k + 1)) a b ∧ U.Perm (allE (L.take (k + 1)))) := fun h1 h2 h3 U hU => ⟨H0.out.next hkL h1 h2 h3 hU, by have := hU.perm; rw [List.take_length] at this; rw [allE_take L k hkL]; exact this⟩
        have HPl : Hid ((allE (L.take k)).length ≤ 16 * n) := by
          have := allE_len (L.take k) (fun f hf => (H0.out.filled f hf).few)
          rw [List.length_take] at this
          have h9 := HN.out
          show _ ≤ _
          omega
        have HI0 : Hid (InSt (allE (L.take k)) L[k].ext a b 0 U) := ⟨HU.out, by simpa using HP.out, by simp⟩
        generalize allE (L.take k) = P at *
        obtain ⟨f, hf⟩ : ∃ f, L[k] = f := ⟨_, rfl⟩
        rw [hf] at x0 x1 x2 x3 HNa HFi HIn HRn HRf HFf HRr HRa HRp HNx HI0 HAe HSE
        clear hf hnf HFl
        obtain ⟨nm, sh, sz, E⟩ := f
        dsimp only at x0 x1 x2 x3 HNa HFi HIn HRn HRr HRa HRp HNx HI0 HAe HSE
        obtain ⟨m, hm⟩ : ∃ m, E.length = m := ⟨_, rfl⟩
        have HM := Lib.hid hm
        have hbx : Hid (∀ W, Below (wo.heap.size + 1) (wo.alloc (.cells #[.string nm, .bool sh, .int .i64 sz, .slice eo m ec] 50)) W → W.cell? ⟨wo.heap.size, 0, none⟩ = some (.string nm) ∧ W.cell? ⟨wo.heap.size, 1, none⟩ = some (.bool sh) ∧ W.cell? ⟨wo.heap.size, 2, none⟩ = some (.int .i64 sz) ∧ W.cell? ⟨wo.heap.size, 3, none⟩ = some (.slice eo m ec)) := fun W hW => by
          have e := heap_alloc_new wo (.cells #[.string nm, .bool sh, .int .i64 sz, .slice eo m ec] 50)
          exact ⟨(hW.cell (p := ⟨wo.heap.size, 0, none⟩) (by simp)).trans (Fr.cell_at e), (hW.cell (p := ⟨wo.heap.size, 1, none⟩) (by simp)).trans (Fr.cell_at e), (hW.cell (p := ⟨wo.heap.size, 2, none⟩) (by simp)).trans (Fr.cell_at e), (hW.cell (p := ⟨wo.heap.size, 3, none⟩) (by simp)).trans (Fr.cell_at e)⟩
        rw [hm] at x3 HFi
        clear hm
        -- does it rise?
        by_cases hk0 : k = 0
        · subst hk0
          have HRi : Hid (∀ q, 0 = q + 1 → ∀ h : q < L.length, less L[q].name nm = true) := fun q hq => by omega
          rw [Nat.zero_mul, Nat.add_zero] at x0 x1 x2 x3
          go_wp2_with fail
          go_quiet (fail)
          clear x0 x1 x2 x3
          obtain ⟨W1, hW1⟩ : ∃ W1, (wo.alloc (.cells #[.string nm, .bool sh, .int .i64 sz, .slice eo m ec] 50)).drewN nq = W1 := ⟨_, rfl⟩
          have HB1 : Hid (Below (wo.heap.size + 1) (wo.alloc (.cells #[.string nm, .bool sh, .int .i64 sz, .slice eo m ec] 50)) W1) := by rw [← hW1]; exact below_drewN (Below.refl _ _) nq
          rw [hW1]
          clear hW1
          have HBw1 : Hid (Below wo.heap.size wo W1) := ((Below.refl _ _).alloc (Nat.le_refl _) _).trans (HB1.out.mono (by omega))
          have hs1 : wo.heap.size + 1 ≤ W1.heap.size := by have := HB1.out.size; simpa using this
          obtain ⟨b0, b1, b2, b3⟩ := hbx.out W1 HB1.out
          cases hok : okName nm
          · obtain rfl : r = false := by
              cases r with
              | false => rfl
              | true => have := HRn.out rfl; rw [hok] at this; cases this
            rw [hok] at HNa
            clear HRn HRf HFf HRr HRa HRp HNx HR
            go_wp2_with (first
              | (go_at_call 12; refine (HNa.out _).mono ?_; rintro e w2 ⟨rfl, rfl⟩))
            go_ret
            exact ⟨rfl, HBr.out.trans (HBw1.out.mono hbr)⟩
          · rw [hok] at HNa
            cases hfd : fdB ⟨nm, sh, sz, E⟩
            · obtain rfl : r = false := by
                cases r with
                | false => rfl
                | true => have := HRf.out rfl; rw [hfd] at this; cases this
              rw [hfd] at HFi
              clear HRn HRf HFf HRr HRa HRp HNx HR
              go_wp2_with (first
                | (go_at_call 12; refine (HNa.out _).mono ?_; rintro e w2 ⟨rfl, rfl⟩)
                | (go_at_call 27; refine (HFi.out _ (HBr.out.trans (HBw1.out.mono hbr))).mono ?_; rintro e w4 ⟨rfl, hb4⟩; have HB4 : Hid (Below wo.heap.size wo w4) := HBw1.out.trans (hb4.mono (by omega))))
              go_ret
              exact ⟨rfl, HBr.out.trans (HB4.out.mono hbr)⟩
            · have HFF := Lib.hid (HFf.out hfd)
              rw [hfd] at HFi
              have HNx2 := Lib.hid (HNx.out HRi.out hok HFF.out)
              have hm16 : m ≤ 16 := by have h9 := HFF.out.few; have h8 := HM.out; dsimp only at h9; omega
              clear HRn HRf HFf HRr HNx hok hfd
              go_wp2_with (first
                | (go_at_call 12; refine (HNa.out _).mono ?_; rintro e w2 ⟨rfl, rfl⟩)
                | (go_at_call 27; refine (HFi.out _ (HBr.out.trans (HBw1.out.mono hbr))).mono ?_; rintro e w4 ⟨rfl, hb4⟩; have HB4 : Hid (Below wo.heap.size wo w4) := HBw1.out.trans (hb4.mono (by omega)); have HB5 : Hid (Below (wo.heap.size + 1) (wo.alloc (.cells #[.string nm, .bool sh, .int .i64 sz, .slice eo m ec] 50)) w4) := HB1.out.trans (hb4.mono (by omega)); obtain ⟨d0, d1, d2, d3⟩ := hbx.out w4 HB5.out))
              clear HNa HFi b0 b1 b2 b3 d0 d1 d2 d3 hbx HB5 HBw1 HB1
              have HO4 : Hid (OwnE w.heap.size w4 (.slice ua U.length uc) U) := HO.out.below HB4.out
              go_loopw [7, 54] (fun uv jv wr => ∃ (j : Nat) (U2 : List (Int × Int)), j ≤ m ∧ jv = .int .i64 (j : Int) ∧ Hid (OwnE w.heap.size wr uv U2) ∧ Hid (InSt P E a b j U2) ∧ Hid (Below w.heap.size w wr)) (fun _ jv _ => m - (intOf jv).toNat)
              case atStart => exact ⟨0, U, Nat.zero_le _, rfl, HO4, HI0, (show Below _ _ _ from HBr.out.trans (HB4.out.mono hbr))⟩
              case round =>
                clear HO4 HI0 HB4
                obtain ⟨j, U2, hj, rfl, HO2, HI, HBq⟩ := hrel
                have hbq := HBq.out.size
                obtain ⟨ua2, uc2, huv2⟩ := own_shapeE HO2.out
                subst huv2
                by_cases hjm : j < m
                · have hjz : (j : Int) < (m : Int) := by omega
                  have hjE : j < E.length := by rw [HM.out]; exact hjm
                  obtain ⟨be, oe, rfl, y0, y1⟩ := HAe.out _ HBq.out j hjE
                  have h64x := HIn.out E[j] (List.getElem_mem hjE)
                  have h1x := HFF.out.some E[j] (List.getElem_mem hjE)
                  have HAm := Lib.hid fun W => among_any E[j] a b W h64x.1 h64x.2 ha hb h1x
                  have HRa2 : Hid (r = true → Among E[j] a b) := fun h => HRa.out h j hjE
                  have HAi : Hid (amB E[j] a b = true → Among E[j] a b) := (amB_iff _ _ _).1
                  have HAj : Hid (Among E[j] a b → amB E[j] a b = true) := (amB_iff _ _ _).2
                  have HRp2 : Hid (r = true → ∀ y ∈ U2, Apart y E[j]) := fun h y hy => HRp.out h j hjE y (HI.out.perm.mem_iff.1 hy)
                  have hlU : U2.length ≤ 2000 := by
                    have h1 := HI.out.perm.length_eq
                    have h2 := HPl.out
                    have h3 := HFF.out.few
                    rw [List.length_append, List.length_take] at h1
                    dsimp only at h3
                    omega
                  have HRo : Hid (∀ W, SlE W (.slice ua2 U2.length uc2) U2 → I64 (E[j].1 + E[j].2) → Calls Try.prog 29 #[.slice ua2 U2.length uc2, .agg #[.int .i64 E[j].1, .int .i64 E[j].2]] W fun e w' => ∃ (q : Nat), e = .returned (.tuple #[.int .i64 (q : Int), .bool (roomB U2 E[j] q)]) ∧ Hid (PlaceE U2 E[j].1 q) ∧ Hid (Below W.heap.size W w')) := fun W h1 h2 => room_any U2 _ E[j] W h1 (by omega) HI.out.used ⟨h64x.1, h2⟩
                  have HRi2 : Hid (∀ q, PlaceE U2 E[j].1 q → (roomB U2 E[j] q = true ↔ ∀ y ∈ U2, Apart y E[j])) := fun q h => roomB_iff HI.out.used h h1x
                  have HIns : Hid (∀ q, PlaceE U2 E[j].1 q → roomB U2 E[j] q = true → I64 (E[j].1 + E[j].2) → Among E[j] a b → InSt P E a b (j + 1) (U2.take q ++ E[j] :: U2.drop q)) := fun q h1 h2 h3 h4 => HI.out.ins hjE h1 h2 h1x ⟨h64x.1, h3⟩ h4
                  generalize E[j] = x at *
                  clear hjE
                  obtain ⟨xs, xc⟩ := x
                  dsimp only at y0 y1 h64x h1x HAm HRo
                  have hbx2 : Hid (∀ W, Below (wr.heap.size + 1) (wr.alloc (.cells #[.int .i64 xs, .int .i64 xc] 52)) W → W.cell? ⟨wr.heap.size, 0, none⟩ = some (.int .i64 xs) ∧ W.cell? ⟨wr.heap.size, 1, none⟩ = some (.int .i64 xc)) := fun W hW => by
                    have e := heap_alloc_new wr (.cells #[.int .i64 xs, .int .i64 xc] 52)
                    exact ⟨(hW.cell (p := ⟨wr.heap.size, 0, none⟩) (by simp)).trans (Fr.cell_at e), (hW.cell (p := ⟨wr.heap.size, 1, none⟩) (by simp)).trans (Fr.cell_at e)⟩
                  have HBa : Hid (∀ W, Below (wr.heap.size + 1) (wr.alloc (.cells #[.int .i64 xs, .int .i64 xc] 52)) W → Below wr.heap.size wr W) := fun W hW => ((Below.refl _ _).alloc (Nat.le_refl _) _).trans (hW.mono (by omega))
                  cases ham : amB (xs, xc) a b
                  · obtain rfl : r = false := by
                      cases r with
                      | false => rfl
                      | true => have := HAj.out (HRa2.out rfl); rw [ham] at this; cases this
                    rw [ham] at HAm
                    clear HRa HRa2 HRp HRp2 HR HAi HAj HRo HIns HRi2
                    go_wp2_with (first
                      | (go_at_call 28; refine (HAm.out _).mono ?_; rintro e w5 ⟨rfl, hb5⟩; have HB5 : Hid (Below (wr.heap.size + 1) (wr.alloc (.cells #[.int .i64 xs, .int .i64 xc] 52)) w5) := hb5.mono (by simp)))
                    go_ret
                    exact ⟨rfl, HBq.out.trans ((HBa.out _ HB5.out).mono hbq)⟩
                  · have HAmm := Lib.hid (HAi.out ham)
                    have h64s : I64 (xs + xc) := by
                      have h1 := HAmm.out.lo; have h2 := HAmm.out.hi; have h3 := HAmm.out.fit
                      unfold I64 at *
                      dsimp only at h1 h2 h3
                      omega
                    rw [ham] at HAm
                    clear HAi HAj ham
                    go_wp2_with (first
                      | (go_at_call 28; refine (HAm.out _).mono ?_; rintro e w5 ⟨rfl, hb5⟩; have HB5 : Hid (Below (wr.heap.size + 1) (wr.alloc (.cells #[.int .i64 xs, .int .i64 xc] 52)) w5) := hb5.mono (by simp); obtain ⟨g0, g1⟩ := hbx2.out _ HB5.out))

                    refine (HRo.out _ (OwnE.sl (HO2.out.below (HBa.out _ HB5.out))) h64s).mono ?_
                    rintro e w6 ⟨q, rfl, HPq, hb6⟩
                    have HB6 : Hid (Below (wr.heap.size + 1) (wr.alloc (.cells #[.int .i64 xs, .int .i64 xc] 52)) w6) := HB5.out.trans (hb6.out.mono (by have := HB5.out.size; simpa using this))
                    clear hb6 g0 g1 HRo
                    obtain ⟨g0, g1⟩ := hbx2.out _ HB6.out
                    have HBq6 := Lib.hid (HBa.out _ HB6.out)
                    have hb6 := HBq6.out.size
                    have hI := HRi2.out q HPq.out
                    have HBw6 : Hid (Below w.heap.size w w6) := HBq.out.trans (HBq6.out.mono hbq)
                    cases hrm : roomB U2 (xs, xc) q
                    · obtain rfl : r = false := by
                        cases r with
                        | false => rfl
                        | true => have := hI.2 (HRp2.out rfl); rw [hrm] at this; cases this
                      clear HRa HRa2 HRp HRp2 HR HIns HRi2 hI
                      go_wp2_with fail
                      go_ret
                      exact ⟨rfl, HBw6.out⟩
                    · have HI3 := Lib.hid (HIns.out q HPq.out hrm h64s HAmm.out)
                      have hql := HPq.out.le
                      have HO6 : Hid (OwnE w.heap.size w6 (.slice ua2 U2.length uc2) U2) := HO2.out.below HBq6.out
                      have hw6 : w.heap.size ≤ w6.heap.size := by omega
                      have HC6 := Lib.hid (insert_any U2 (.slice ua2 U2.length uc2) (xs, xc) q w6.heap.size w.heap.size (w6.alloc (.cells #[.int .i64 xs, .int .i64 xc] 52)) (HO6.out.alloc _) hql (by omega) (by simp; omega) (heap_alloc_new w6 _) (fun e => by
                        have := own_ltE HO6.out e; omega))
                      clear HRa2 HRp2 HIns HRi2 hI hrm
                      go_wp2_with (first
                        | (go_at_call 30; refine (HC6.out).mono ?_; rintro e w7 ⟨u7, rfl, HO7, HB7⟩))
                      have HBr7 : Hid (Below w.heap.size w w7) := (HBw6.out.alloc hw6 _).trans HB7.out
                      obtain ⟨ua7, uc7, rfl⟩ := own_shapeE HO7.out
                      go_roundw
                      case rel => exact ⟨j + 1, _, by omega, by go_num, HO7, HI3, HBr7⟩
                      case measure => simp [intOf]; omega
                · obtain rfl : j = m := by omega
                  have hjz : ¬ (j : Int) < (j : Int) := by omega
                  obtain ⟨h9, h8⟩ := HNx2.out U2 (by rw [HM.out]; exact HI.out)
                  have H09 := Lib.hid h9; have HP9 := Lib.hid h8; have HU9 := Lib.hid HI.out.used
                  clear h9 h8
                  have HBn : Hid (Below w.heap.size w wr) := HBq
                  clear HRa HRp HNx2 HIn HI HAe HSE
                  go_wp2_with fail
                  go_roundw
                  case rel => exact ⟨0 + 1, U2, by omega, by go_num, HO2, HU9, HP9, H09, HBn⟩
                  case measure => simp [intOf]; omega
        · obtain ⟨km, rfl⟩ : ∃ km, k = km + 1 := ⟨k - 1, by omega⟩
          have hkmL : km < L.length := by rw [HN.out]; omega
          have HAm9 : Hid (∀ W, Below w.heap.size w W → W.cell? ⟨bb, off + km * 4, none⟩ = some (.string L[km].name)) := fun W hW => by
            obtain ⟨b', off', ve', e, hF', _⟩ := HAt.out W hW km hkmL
            obtain ⟨rfl, rfl⟩ : bb = b' ∧ off = off' := by simpa using e
            exact hF'.c0
          have HRr2 : Hid (r = true → less L[km].name nm = true) := fun h => HRr.out h km rfl hkmL
          have HRi9 : Hid (less L[km].name nm = true → ∀ q, km + 1 = q + 1 → ∀ h : q < L.length, less L[q].name nm = true) := fun h q hq hql => by
            obtain rfl : km = q := by omega
            exact h
          have z5 : (((km + 1 : Nat) : Int) == 0) = false := beq_eq_false_iff_ne.2 (by omega)
          have z5' : ((km : Int) + 1 == 0) = false := beq_eq_false_iff_ne.2 (by omega)
          have z6 : ¬ ((km : Int) + 1 = 0) := by omega
          have ww : IntKind.i64.wrap (km : Int) = (km : Int) := IntWalk.i64_in _ (by omega)
          have ww' : IntKind.i64.wrap ((km : Int) + 1 - 1) = (km : Int) := by rw [show (km : Int) + 1 - 1 = km by omega]; exact ww
          have hkmz : (km : Int) < (n : Int) := by omega
          have hkmz2 : (km : Int) + 1 < (n : Int) := by omega
          have hkmz3 : (0 : Int) ≤ (km : Int) + 1 := by omega
          have hkmz4 : ((km : Int) + 1).toNat = km + 1 := by omega
          generalize L[km].name = pn at *
          have HW0 : Hid (∀ nq, Below w.heap.size w ((wo.alloc (.cells #[.string nm, .bool sh, .int .i64 sz, .slice eo m ec] 50)).drewN nq)) := fun nq => below_drewN (HBr.out.alloc hbr _) nq
          have v0 := HAm9.out _ (HBr.out.alloc hbr (.cells #[.string nm, .bool sh, .int .i64 sz, .slice eo m ec] 50))
          have hle : Op.bytesLess pn.toList nm.toList = less pn nm := rfl
          cases hrb : less pn nm
          · rw [hrb] at hle
            obtain rfl : r = false := by
              cases r with
              | false => rfl
              | true => have := HRr2.out rfl; rw [hrb] at this; cases this
            clear HRr2 HRi9 HRn HRf HFf HRr HRa HRp HNx HR hrb
            go_wp2_with fail
            go_quiet (fail)
            have HW1 := HW0.out nq
            have HW1 := Lib.hid HW1
            go_wp2_with fail
            go_ret
            exact ⟨rfl, HW1.out⟩
          · have HRi := Lib.hid (HRi9.out hrb)
            rw [hrb] at hle
            clear HRr2 HRi9 hrb HRr
            go_wp2_with fail
            go_quiet (fail)
            clear v0 hle HAm9
            clear x0 x1 x2 x3
            obtain ⟨W1, hW1⟩ : ∃ W1, (wo.alloc (.cells #[.string nm, .bool sh, .int .i64 sz, .slice eo m ec] 50)).drewN nq = W1 := ⟨_, rfl⟩
            have HB1 : Hid (Below (wo.heap.size + 1) (wo.alloc (.cells #[.string nm, .bool sh, .int .i64 sz, .slice eo m ec] 50)) W1) := by rw [← hW1]; exact below_drewN (Below.refl _ _) nq
            rw [hW1]
            clear hW1
            have HBw1 : Hid (Below wo.heap.size wo W1) := ((Below.refl _ _).alloc (Nat.le_refl _) _).trans (HB1.out.mono (by omega))
            have hs1 : wo.heap.size + 1 ≤ W1.heap.size := by have := HB1.out.size; simpa using this
            obtain ⟨b0, b1, b2, b3⟩ := hbx.out W1 HB1.out
            cases hok : okName nm
            · obtain rfl : r = false := by
                cases r with
                | false => rfl
                | true => have := HRn.out rfl; rw [hok] at this; cases this
              rw [hok] at HNa
              clear HRn HRf HFf HRa HRp HNx HR
              go_wp2_with (first
                | (go_at_call 12; refine (HNa.out _).mono ?_; rintro e w2 ⟨rfl, rfl⟩))
              go_ret
              exact ⟨rfl, HBr.out.trans (HBw1.out.mono hbr)⟩
            · rw [hok] at HNa
              cases hfd : fdB ⟨nm, sh, sz, E⟩
              · obtain rfl : r = false := by
                  cases r with
                  | false => rfl
                  | true => have := HRf.out rfl; rw [hfd] at this; cases this
                rw [hfd] at HFi
                clear HRn HRf HFf HRa HRp HNx HR
                go_wp2_with (first
                  | (go_at_call 12; refine (HNa.out _).mono ?_; rintro e w2 ⟨rfl, rfl⟩)
                  | (go_at_call 27; refine (HFi.out _ (HBr.out.trans (HBw1.out.mono hbr))).mono ?_; rintro e w4 ⟨rfl, hb4⟩; have HB4 : Hid (Below wo.heap.size wo w4) := HBw1.out.trans (hb4.mono (by omega))))
                go_ret
                exact ⟨rfl, HBr.out.trans (HB4.out.mono hbr)⟩
              · have HFF := Lib.hid (HFf.out hfd)
                rw [hfd] at HFi
                have HNx2 := Lib.hid (HNx.out HRi.out hok HFF.out)
                have hm16 : m ≤ 16 := by have h9 := HFF.out.few; have h8 := HM.out; dsimp only at h9; omega
                clear HRn HRf HFf HNx hok hfd
                go_wp2_with (first
                  | (go_at_call 12; refine (HNa.out _).mono ?_; rintro e w2 ⟨rfl, rfl⟩)
                  | (go_at_call 27; refine (HFi.out _ (HBr.out.trans (HBw1.out.mono hbr))).mono ?_; rintro e w4 ⟨rfl, hb4⟩; have HB4 : Hid (Below wo.heap.size wo w4) := HBw1.out.trans (hb4.mono (by omega)); have HB5 : Hid (Below (wo.heap.size + 1) (wo.alloc (.cells #[.string nm, .bool sh, .int .i64 sz, .slice eo m ec] 50)) w4) := HB1.out.trans (hb4.mono (by omega)); obtain ⟨d0, d1, d2, d3⟩ := hbx.out w4 HB5.out))
                clear HNa HFi b0 b1 b2 b3 d0 d1 d2 d3 hbx HB5 HBw1 HB1
                have HO4 : Hid (OwnE w.heap.size w4 (.slice ua U.length uc) U) := HO.out.below HB4.out
                go_loopw [7, 54] (fun uv jv wr => ∃ (j : Nat) (U2 : List (Int × Int)), j ≤ m ∧ jv = .int .i64 (j : Int) ∧ Hid (OwnE w.heap.size wr uv U2) ∧ Hid (InSt P E a b j U2) ∧ Hid (Below w.heap.size w wr)) (fun _ jv _ => m - (intOf jv).toNat)
                case atStart => exact ⟨0, U, Nat.zero_le _, rfl, HO4, HI0, (show Below _ _ _ from HBr.out.trans (HB4.out.mono hbr))⟩
                case round =>
                  clear HO4 HI0 HB4
                  obtain ⟨j, U2, hj, rfl, HO2, HI, HBq⟩ := hrel
                  have hbq := HBq.out.size
                  obtain ⟨ua2, uc2, huv2⟩ := own_shapeE HO2.out
                  subst huv2
                  by_cases hjm : j < m
                  · have hjz : (j : Int) < (m : Int) := by omega
                    have hjE : j < E.length := by rw [HM.out]; exact hjm
                    obtain ⟨be, oe, rfl, y0, y1⟩ := HAe.out _ HBq.out j hjE
                    have h64x := HIn.out E[j] (List.getElem_mem hjE)
                    have h1x := HFF.out.some E[j] (List.getElem_mem hjE)
                    have HAm := Lib.hid fun W => among_any E[j] a b W h64x.1 h64x.2 ha hb h1x
                    have HRa2 : Hid (r = true → Among E[j] a b) := fun h => HRa.out h j hjE
                    have HAi : Hid (amB E[j] a b = true → Among E[j] a b) := (amB_iff _ _ _).1
                    have HAj : Hid (Among E[j] a b → amB E[j] a b = true) := (amB_iff _ _ _).2
                    have HRp2 : Hid (r = true → ∀ y ∈ U2, Apart y E[j]) := fun h y hy => HRp.out h j hjE y (HI.out.perm.mem_iff.1 hy)
                    have hlU : U2.length ≤ 2000 := by
                      have h1 := HI.out.perm.length_eq
                      have h2 := HPl.out
                      have h3 := HFF.out.few
                      rw [List.length_append, List.length_take] at h1
                      dsimp only at h3
                      omega
                    have HRo : Hid (∀ W, SlE W (.slice ua2 U2.length uc2) U2 → I64 (E[j].1 + E[j].2) → Calls Try.prog 29 #[.slice ua2 U2.length uc2, .agg #[.int .i64 E[j].1, .int .i64 E[j].2]] W fun e w' => ∃ (q : Nat), e = .returned (.tuple #[.int .i64 (q : Int), .bool (roomB U2 E[j] q)]) ∧ Hid (PlaceE U2 E[j].1 q) ∧ Hid (Below W.heap.size W w')) := fun W h1 h2 => room_any U2 _ E[j] W h1 (by omega) HI.out.used ⟨h64x.1, h2⟩
                    have HRi2 : Hid (∀ q, PlaceE U2 E[j].1 q → (roomB U2 E[j] q = true ↔ ∀ y ∈ U2, Apart y E[j])) := fun q h => roomB_iff HI.out.used h h1x
                    have HIns : Hid (∀ q, PlaceE U2 E[j].1 q → roomB U2 E[j] q = true → I64 (E[j].1 + E[j].2) → Among E[j] a b → InSt P E a b (j + 1) (U2.take q ++ E[j] :: U2.drop q)) := fun q h1 h2 h3 h4 => HI.out.ins hjE h1 h2 h1x ⟨h64x.1, h3⟩ h4
                    generalize E[j] = x at *
                    clear hjE
                    obtain ⟨xs, xc⟩ := x
                    dsimp only at y0 y1 h64x h1x HAm HRo
                    have hbx2 : Hid (∀ W, Below (wr.heap.size + 1) (wr.alloc (.cells #[.int .i64 xs, .int .i64 xc] 52)) W → W.cell? ⟨wr.heap.size, 0, none⟩ = some (.int .i64 xs) ∧ W.cell? ⟨wr.heap.size, 1, none⟩ = some (.int .i64 xc)) := fun W hW => by
                      have e := heap_alloc_new wr (.cells #[.int .i64 xs, .int .i64 xc] 52)
                      exact ⟨(hW.cell (p := ⟨wr.heap.size, 0, none⟩) (by simp)).trans (Fr.cell_at e), (hW.cell (p := ⟨wr.heap.size, 1, none⟩) (by simp)).trans (Fr.cell_at e)⟩
                    have HBa : Hid (∀ W, Below (wr.heap.size + 1) (wr.alloc (.cells #[.int .i64 xs, .int .i64 xc] 52)) W → Below wr.heap.size wr W) := fun W hW => ((Below.refl _ _).alloc (Nat.le_refl _) _).trans (hW.mono (by omega))
                    cases ham : amB (xs, xc) a b
                    · obtain rfl : r = false := by
                        cases r with
                        | false => rfl
                        | true => have := HAj.out (HRa2.out rfl); rw [ham] at this; cases this
                      rw [ham] at HAm
                      clear HRa HRa2 HRp HRp2 HR HAi HAj HRo HIns HRi2
                      go_wp2_with (first
                        | (go_at_call 28; refine (HAm.out _).mono ?_; rintro e w5 ⟨rfl, hb5⟩; have HB5 : Hid (Below (wr.heap.size + 1) (wr.alloc (.cells #[.int .i64 xs, .int .i64 xc] 52)) w5) := hb5.mono (by simp)))
                      go_ret
                      exact ⟨rfl, HBq.out.trans ((HBa.out _ HB5.out).mono hbq)⟩
                    · have HAmm := Lib.hid (HAi.out ham)
                      have h64s : I64 (xs + xc) := by
                        have h1 := HAmm.out.lo; have h2 := HAmm.out.hi; have h3 := HAmm.out.fit
                        unfold I64 at *
                        dsimp only at h1 h2 h3
                        omega
                      rw [ham] at HAm
                      clear HAi HAj ham
                      go_wp2_with (first
                        | (go_at_call 28; refine (HAm.out _).mono ?_; rintro e w5 ⟨rfl, hb5⟩; have HB5 : Hid (Below (wr.heap.size + 1) (wr.alloc (.cells #[.int .i64 xs, .int .i64 xc] 52)) w5) := hb5.mono (by simp); obtain ⟨g0, g1⟩ := hbx2.out _ HB5.out))
  
                      refine (HRo.out _ (OwnE.sl (HO2.out.below (HBa.out _ HB5.out))) h64s).mono ?_
                      rintro e w6 ⟨q, rfl, HPq, hb6⟩
                      have HB6 : Hid (Below (wr.heap.size + 1) (wr.alloc (.cells #[.int .i64 xs, .int .i64 xc] 52)) w6) := HB5.out.trans (hb6.out.mono (by have := HB5.out.size; simpa using this))
                      clear hb6 g0 g1 HRo
                      obtain ⟨g0, g1⟩ := hbx2.out _ HB6.out
                      have HBq6 := Lib.hid (HBa.out _ HB6.out)
                      have hb6 := HBq6.out.size
                      have hI := HRi2.out q HPq.out
                      have HBw6 : Hid (Below w.heap.size w w6) := HBq.out.trans (HBq6.out.mono hbq)
                      cases hrm : roomB U2 (xs, xc) q
                      · obtain rfl : r = false := by
                          cases r with
                          | false => rfl
                          | true => have := hI.2 (HRp2.out rfl); rw [hrm] at this; cases this
                        clear HRa HRa2 HRp HRp2 HR HIns HRi2 hI
                        go_wp2_with fail
                        go_ret
                        exact ⟨rfl, HBw6.out⟩
                      · have HI3 := Lib.hid (HIns.out q HPq.out hrm h64s HAmm.out)
                        have hql := HPq.out.le
                        have HO6 : Hid (OwnE w.heap.size w6 (.slice ua2 U2.length uc2) U2) := HO2.out.below HBq6.out
                        have hw6 : w.heap.size ≤ w6.heap.size := by omega
                        have HC6 := Lib.hid (insert_any U2 (.slice ua2 U2.length uc2) (xs, xc) q w6.heap.size w.heap.size (w6.alloc (.cells #[.int .i64 xs, .int .i64 xc] 52)) (HO6.out.alloc _) hql (by omega) (by simp; omega) (heap_alloc_new w6 _) (fun e => by
                          have := own_ltE HO6.out e; omega))
                        clear HRa2 HRp2 HIns HRi2 hI hrm
                        go_wp2_with (first
                          | (go_at_call 30; refine (HC6.out).mono ?_; rintro e w7 ⟨u7, rfl, HO7, HB7⟩))
                        have HBr7 : Hid (Below w.heap.size w w7) := (HBw6.out.alloc hw6 _).trans HB7.out
                        obtain ⟨ua7, uc7, rfl⟩ := own_shapeE HO7.out
                        go_roundw
                        case rel => exact ⟨j + 1, _, by omega, by go_num, HO7, HI3, HBr7⟩
                        case measure => simp [intOf]; omega
                  · obtain rfl : j = m := by omega
                    have hjz : ¬ (j : Int) < (j : Int) := by omega
                    obtain ⟨h9, h8⟩ := HNx2.out U2 (by rw [HM.out]; exact HI.out)
                    have H09 := Lib.hid h9; have HP9 := Lib.hid h8; have HU9 := Lib.hid HI.out.used
                    clear h9 h8
                    have HBn : Hid (Below w.heap.size w wr) := HBq
                    clear HRa HRp HNx2 HIn HI HAe HSE
                    go_wp2_with fail
                    go_roundw
                    case rel => exact ⟨km + 1 + 1, U2, by omega, by go_num, HO2, HU9, HP9, H09, HBn⟩
                    case measure => simp [intOf]; omega
      · obtain rfl : k = n := by omega
        have hkz : ¬ (k : Int) < (k : Int) := by omega
        obtain rfl : r = true := HR.out.2 ⟨by rw [HN.out]; omega, by have := H0.out; rw [List.take_of_length_le (by rw [HN.out]; exact Nat.le_refl _)] at this; exact this⟩
        clear HR
        go_wp2_with fail
        go_ret
        exact ⟨rfl, HBr.out⟩
end Go.Proofs.Ytfmnbabkdpiboaa
/- Places of names in a list of files whose names rise (a search by halves). -/
namespace Go.Proofs.Ytfmnbabkdpiboaa
open Go.RowKit
open Fr (below_drewN)

/-- Where a name would stand. -/
structure PlaceF (L : List Fl) (s : ByteArray) (at9 : Nat) : Prop where
  le : at9 ≤ L.length
  lo : ∀ j (h : j < L.length), j < at9 → less L[j].name s = true
  hi : ∀ j (h : j < L.length), at9 ≤ j → less L[j].name s = false
/-- Whether it is there. -/
def isAtF (L : List Fl) (s : ByteArray) (k : Nat) : Bool := match L[k]? with
  | some f => f.name.toList == s.toList
  | none => false
theorem risesF {L : List Fl} (hp : L.Pairwise fun f g => less f.name g.name = true) {i j : Nat} (hij : i ≤ j) (hj : j < L.length) (s : ByteArray) (h : less L[j].name s = true) : less (L[i]'(by omega)).name s = true := by
  by_cases e : i = j
  · subst e; exact h
  · exact less_trans (List.pairwise_iff_getElem.1 hp i j (by omega) hj (by omega)) h
set_option maxRecDepth 100000 in
set_option maxHeartbeats 1000000 in
theorem nameOf_any (f : Fl) (ve : Value) (w : World) : Calls Try.prog 33 #[fileAgg f ve] w fun e w' => e = .returned (.string f.name) ∧ Below w.heap.size w w' := by
  have HB := Lib.hid (Below.refl w.heap.size w)
  obtain ⟨nm, sh, sz, E⟩ := f
  unfold fileAgg
  dsimp only at *
  go_enter Try.func33, Try.ntmps33
  go_wp2
  go_ret
  exact ⟨rfl, HB.out.alloc (Nat.le_refl _) _⟩
set_option maxRecDepth 100000 in
set_option maxHeartbeats 4000000 in
theorem placeF_any (L : List Fl) (v : Value) (s : ByteArray) (w : World) (h : SlF w v L) (hn : L.length ≤ 100000) (hp : L.Pairwise fun f g => less f.name g.name = true) :
    Calls Try.prog 32 #[v, .string s, .func (.func 33) #[] #[]] w fun e w' => ∃ (k : Nat), e = .returned (.tuple #[.int .i64 (k : Int), .bool (isAtF L s k)]) ∧ Hid (PlaceF L s k) ∧ Hid (Below w.heap.size w w') := by
  obtain ⟨ao, c, rfl, hat⟩ := h.shape
  have HAt := Lib.hid hat; clear hat h
  have HB := Lib.hid (Below.refl w.heap.size w)
  obtain ⟨n, hl⟩ : ∃ n, L.length = n := ⟨_, rfl⟩
  have HN := Lib.hid hl
  have HP := Lib.hid hp
  rw [hl] at hn ⊢
  clear hl hp
  go_enter Try.func32, Try.ntmps32
  go_wp2_with fail
  go_loopw [8, 9] (fun lv hv wr => ∃ lo hi : Nat, lo ≤ hi ∧ hi ≤ n ∧ lv = .int .i64 (lo : Int) ∧ hv = .int .i64 (hi : Int) ∧ Hid (∀ j (h : j < L.length), j < lo → less L[j].name s = true) ∧ Hid (∀ j (h : j < L.length), hi ≤ j → less L[j].name s = false) ∧ Hid (Below w.heap.size w wr)) (fun lv hv _ => (intOf hv).toNat - (intOf lv).toNat)
  case atStart => exact ⟨0, n, Nat.zero_le _, Nat.le_refl _, rfl, rfl, (show ∀ j (h : j < L.length), j < 0 → less L[j].name s = true from fun j _ h => absurd h (Nat.not_lt_zero _)), (show ∀ j (h : j < L.length), n ≤ j → less L[j].name s = false from fun j h1 h2 => absurd h2 (by have := HN.out; omega)), HB⟩
  case round =>
    obtain ⟨lo, hi, hlh, hhn, rfl, rfl, HLo, HHi, HBr⟩ := hrel
    have hbr := HBr.out.size
    by_cases hlt : lo < hi
    · have hz : (lo : Int) < (hi : Int) := by omega
      obtain ⟨mid, hmid⟩ : ∃ mid, mid = lo + (hi - lo) / 2 := ⟨_, rfl⟩
      have hm1 : lo ≤ mid := by omega
      have hm2 : mid < hi := by omega
      have ww1 : IntKind.i64.wrap ((hi : Int) - (lo : Int)) = (hi : Int) - (lo : Int) := IntWalk.i64_in _ (by omega)
      have ww2 : ((hi : Int) - (lo : Int)).tdiv 2 = ((hi : Int) - (lo : Int)) / 2 := Int.tdiv_eq_ediv_of_nonneg (by omega)
      have ww3 : IntKind.i64.wrap (((hi : Int) - (lo : Int)) / 2) = ((hi : Int) - (lo : Int)) / 2 := IntWalk.i64_in _ (by omega)
      have ww5 : (lo : Int) + ((hi : Int) - (lo : Int)) / 2 = (mid : Int) := by omega
      have ww4 : IntKind.i64.wrap (mid : Int) = (mid : Int) := IntWalk.i64_in _ (by omega)
      have ww6 : IntKind.i64.wrap ((mid : Int) + 1) = (mid : Int) + 1 := IntWalk.i64_in _ (by omega)
      have hmL : mid < L.length := by rw [HN.out]; omega
      obtain ⟨bb, off, ve, rfl, hF, _⟩ := HAt.out _ HBr.out mid hmL
      obtain ⟨x0, x1, x2, x3, hext⟩ := hF
      clear hext
      have hmz : (mid : Int) < (n : Int) := by omega
      have HC := Lib.hid fun W => nameOf_any L[mid] ve W
      have HA1 : Hid (less L[mid].name s = true → ∀ j (h : j < L.length), j < mid + 1 → less L[j].name s = true) := fun h1 j hj h2 => risesF HP.out (by omega) hmL s h1
      have HA2 : Hid (less L[mid].name s = false → ∀ j (h : j < L.length), mid ≤ j → less L[j].name s = false) := fun h1 j hj h2 => by
        cases e : less L[j].name s with
        | false => rfl
        | true => rw [risesF HP.out h2 hj s e] at h1; cases h1
      clear hmid
      generalize L[mid] = y at *
      clear hmL
      obtain ⟨nm, sh, sz, E⟩ := y
      unfold fileAgg at HC
      dsimp only at x0 x1 x2 x3 HC HA1 HA2
      have hle : Op.bytesLess nm.toList s.toList = less nm s := rfl
      cases hlt9 : less nm s
      · have HA3 := Lib.hid (HA2.out hlt9)
        rw [hlt9] at hle
        clear HA1 HA2 HHi hlt9
        go_wp2_with (go_at_call 33; refine (HC.out _).mono ?_; rintro e w2 ⟨rfl, hb2⟩; have HB2 := Lib.hid hb2; clear hb2)
        go_roundw
        case rel => exact ⟨lo, mid, by omega, by omega, rfl, rfl, HLo, HA3, HBr.out.trans (HB2.out.mono hbr)⟩
        case measure => simp [intOf]; omega
      · have HA3 := Lib.hid (HA1.out hlt9)
        rw [hlt9] at hle
        clear HA1 HA2 HLo hlt9
        go_wp2_with (go_at_call 33; refine (HC.out _).mono ?_; rintro e w2 ⟨rfl, hb2⟩; have HB2 := Lib.hid hb2; clear hb2)
        go_roundw
        case rel => exact ⟨mid + 1, hi, by omega, by omega, by go_num, rfl, HA3, HHi, HBr.out.trans (HB2.out.mono hbr)⟩
        case measure => simp [intOf]; omega
    · obtain rfl : lo = hi := by omega
      have hz : ¬ (lo : Int) < (lo : Int) := by omega
      have HPl : Hid (PlaceF L s lo) := ⟨by rw [HN.out]; exact hhn, HLo.out, HHi.out⟩
      by_cases hin : lo < n
      · have hnz : (lo : Int) < (n : Int) := by omega
        have hmL : lo < L.length := by rw [HN.out]; exact hin
        obtain ⟨bb, off, ve, rfl, hF, _⟩ := HAt.out _ HBr.out lo hmL
        obtain ⟨x0, x1, x2, x3, hext⟩ := hF
        clear hext
        have HC := Lib.hid fun W => nameOf_any L[lo] ve W
        have HI : Hid (isAtF L s lo = (L[lo].name.toList == s.toList)) := by
          show _ = _
          unfold isAtF
          rw [List.getElem?_eq_getElem hmL]
        generalize L[lo] = y at *
        clear hmL
        obtain ⟨nm, sh, sz, E⟩ := y
        unfold fileAgg at HC
        dsimp only at x0 x1 x2 x3 HC HI
        clear HLo HHi HP
        cases he : (nm.toList == s.toList)
        · rw [he] at HI
          go_wp2_with (go_at_call 33; refine (HC.out _).mono ?_; rintro e w2 ⟨rfl, hb2⟩; have HB2 := Lib.hid hb2; clear hb2)
          go_ret2
          exact ⟨lo, by rw [HI.out]; rfl, HPl, HBr.out.trans (HB2.out.mono hbr)⟩
        · rw [he] at HI
          go_wp2_with (go_at_call 33; refine (HC.out _).mono ?_; rintro e w2 ⟨rfl, hb2⟩; have HB2 := Lib.hid hb2; clear hb2)
          go_ret2
          exact ⟨lo, by rw [HI.out]; rfl, HPl, HBr.out.trans (HB2.out.mono hbr)⟩
      · have hnz : ¬ (lo : Int) < (n : Int) := by omega
        have HI : Hid (isAtF L s lo = false) := by
          show _ = _
          unfold isAtF
          rw [List.getElem?_eq_none (by rw [HN.out]; omega)]
        clear HLo HHi HP
        go_wp2_with fail
        go_ret2
        exact ⟨lo, by rw [HI.out]; rfl, HPl, HBr.out⟩
set_option maxRecDepth 100000 in
set_option maxHeartbeats 1000000 in
theorem find_any (L : List Fl) (v : Value) (s : ByteArray) (w : World) (h : SlF w v L) (hn : L.length ≤ 100000) (hp : L.Pairwise fun f g => less f.name g.name = true) :
    Calls Try.prog 16 #[v, .string s] w fun e w' => ∃ (k : Nat), e = .returned (.tuple #[.int .i64 (k : Int), .bool (isAtF L s k)]) ∧ Hid (PlaceF L s k) ∧ Hid (Below w.heap.size w w') := by
  have HP := Lib.hid (placeF_any L v s w h hn hp)
  obtain ⟨ao, c, rfl, _⟩ := h
  clear hp
  go_enter Try.func16, Try.ntmps16
  go_wp2_with fail
  refine HP.out.mono ?_
  rintro e w1 ⟨k, rfl, HPl, HB⟩
  go_wp2
  go_ret2
  exact ⟨k, rfl, HPl, HB⟩
end Go.Proofs.Ytfmnbabkdpiboaa
