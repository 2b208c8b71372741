/- slices.Insert of one write into a row of one's own. -/
import Derived.Test.YthambopnmhkeeaaGreatZJSlot
import Derived.Test.YthambopnmhkeeaaGreatZBase
import Derived.Lib.Overlaps
import Derived.Lib.AppendZerosOnto
import Derived.Laws.CopyRow
import Derived.Laws.NewBlocks
import Derived.Deep.RegionLaw
import Derived.OwnWalk
import Derived.Laws.CopyOwn

set_option maxRecDepth 100000
namespace Go.Proofs.YthambopnmhkeeaaGreat
open Go.RowKit
open Fr (below_drewN add_at)
theorem run_copy_wide {P : Program} (w : World) (dT sT ty elem : TypeId) (k g o dLen dCap : Nat) (a : Addr) (sLen sCap : Nat) (cur : Array Value) (t : TypeId) (cs : List Value)
  (hu : P.underlying dT = some (.slice elem)) (hs : (P.info? elem).map (·.size) = some k)
  (hg : w.heap[g]? = some (.cells cur t (0, 0))) (hn : cs.length = Nat.min sLen dLen * k)
  (hsrc : ∀ j v, cs[j]? = some v -> w.cell? (a.add j) = some v) (hfit : o + cs.length <= cur.size) (h1 : ∀ v ∈ cs, v.oneCell' = true) :
  (Builtin.copy_ #[dT, sT] ty #[.slice (some ⟨g, o, none⟩) dLen dCap, .slice (some a) sLen sCap]).run P w =
   .ok (goInt (Nat.min sLen dLen)) (w.setRow g (cur.toList.take o ++ cs ++ cur.toList.drop (o + cs.length)).toArray) := by
 have hl := run_loadCells_list (P := P) w a cs hsrc
 have hst := run_storeCells_at P g o t cs 0 cur w hg (by simpa using hfit) h1
 cases hq : P.info? elem with
 | none => simp [hq] at hs
 | some i =>
  have hi : i.size = k := by simpa [hq] using hs
  simp [Builtin.copy_, run_underlying hu, Builtin.lenOf, Builtin.firstCells, sizeOf, typeInfo, hq, hi, <- hn, hl, hst]
theorem step_run {P : Program} {ops : Array Oper} {o : Oper} {a : Act} {w w' : World} {K : Act -> World -> Prop} {Q : Exit -> Act -> World -> Prop} {E : Prop} {v : Value} (hg : o.guard = none) (hr : (execOp a.eval o).run P w = .ok (.value v) w') (hK : K (a.put o.dst v) w') :
  if Region.wanted o (yielded ops a.tmps) = true then Oper.wp P o a w K Q else E := by
 have hw : Region.wanted o (yielded ops a.tmps) = true := by simp [Region.wanted, hg]
 rw [if_pos hw]
 unfold Oper.wp
 rw [hr]
 exact hK
theorem wpList_runs {P : Program} {ops : Array Oper} {rest : List Oper} {o : Oper} {a : Act} {w w' : World} {Q : Exit -> Act -> World -> Prop} {v : Value} (hg : o.guard = none) (hr : (execOp a.eval o).run P w = .ok (.value v) w') (h : wpList P ops Q rest (a.put o.dst v) w') : wpList P ops Q (o :: rest) a w := by
 refine wpList_plain hg fun K hK => ?_
 unfold Oper.wp
 rw [hr]
 exact hK _ _ h
theorem ex_copy {P : Program} {a : Act} {w w' : World} {o : Oper} {d s : Operand} {t u : TypeId} {x y v : Value} (ho : o.op = .call { callee := .builtin .copy, args := #[d, s], argTypes := #[t, u] }) (hd : a.eval d = x) (hs : a.eval s = y)
  (hr : (Builtin.copy_ #[t, u] o.type #[x, y]).run P w = .ok v w') : (execOp a.eval o).run P w = .ok (.value v) w' := by
 unfold execOp
 simp only [ho, resolve, invoke, builtin, List.map_toArray, List.map_cons, List.map_nil, hd, hs, Sem.run_bind, Sem.run_pure, Result.andThen_ok, hr]
theorem ex_append {P : Program} {a : Act} {w w' : World} {o : Oper} {d s : Operand} {t u : TypeId} {x y v : Value} (ho : o.op = .call { callee := .builtin .append, args := #[d, s], argTypes := #[t, u] }) (hd : a.eval d = x) (hs : a.eval s = y)
  (hr : (Builtin.append_ #[t, u] o.type #[x, y]).run P w = .ok v w') : (execOp a.eval o).run P w = .ok (.value v) w' := by
 unfold execOp
 simp only [ho, resolve, invoke, builtin, List.map_toArray, List.map_cons, List.map_nil, hd, hs, Sem.run_bind, Sem.run_pure, Result.andThen_ok, hr]
theorem own_shapeE {w : World} {B n : Nat} {e : TypeId} {k : Nat} {v : Value} {xs : List Value} (h : w.ownsRow B e k v n xs) : ∃ ao c, v = .slice ao n c := by
 rcases h.2 with ⟨rfl, rfl⟩ | ⟨g, cap, cur, rfl, _⟩
 ·exact ⟨_, _, rfl⟩
 ·exact ⟨_, _, rfl⟩
theorem two_cellsE {w : World} {g : Nat} {x y : Value} {t : TypeId} {fz : Nat × Nat} (h : w.heap[g]? = some (.cells #[x, y] t fz)) : ∀ j u, [x, y][j]? = some u -> w.cell? ((⟨g, 0, none⟩ : Addr).add j) = some u := by
 intro j u hu
 have hadd : (⟨g, 0, none⟩ : Addr).add j = ⟨g, j, none⟩ := by unfold Addr.add; split <;> simp_all
 rw [hadd, cell_at h]
 simpa using hu
theorem two_oneE (a : Int) (b : ByteArray) : ∀ u ∈ [Value.int .i64 a, Value.string b], u.oneCell' = true := by
 intro u hu
 simp at hu
 rcases hu with rfl | rfl <;> rfl
set_option maxHeartbeats 4000000 in
theorem insert_end (L : List (Int × ByteArray)) (v : Value) (x : Int × ByteArray) (vb B : Nat) (w : World) (h : Fr.OwnW B w v L) (hn : L.length <= 100000) (hB : B <= w.heap.size) (hv : w.heap[vb]? = some (.cells #[.int .i64 x.1, .string x.2] 63 (0, 0))) :
  Calls Tryz.prog 74 #[v, .int .i64 (L.length : Int), .slice (some ⟨vb, 0, none⟩) 1 1] w fun e w' => ∃ u, e = .returned u /\ Hid (Fr.OwnW B w' u (L ++ [x])) /\ Hid (Below B w w') := by
 obtain ⟨i0, hi, hz0, hz1, hz2⟩ := info_parts Tryz.infoW
 have HZ2 := Lib.hid hz2
 clear hz2
 obtain ⟨ao, c, hsv⟩ := own_shapeE h
 subst hsv
 have HV := Lib.hid hv; clear hv
 have HO := Lib.hid h
 have hcap : L.length <= c := by
  rcases h.2 with ⟨e, e0⟩ | ⟨g, cap, cur, e, _, _, hc, _⟩
  ·omega
  ·have : c = cap := by simpa using congrArg (fun v => match v with | Value.slice _ _ q => q | _ => 0) e
   omega
 have HB := Lib.hid (Below.refl B w)
 have HE : Hid (∀ w' u, w'.ownsRow B 63 2 u (L.length + 1) (Fr.flatI L ++ [.int .i64 x.1, .string x.2]) -> Fr.OwnW B w' u (L ++ [x])) := fun w' u hu => by
  unfold Fr.OwnW
  rw [List.length_append, List.length_singleton, Fr.flatI_append]
  exact hu
 have HGe : Hid (∀ q, (Value.slice ao L.length c).ownBlock = some q -> B <= q) := fun q hq => (by
  rcases HO.out.2 with ⟨e, _⟩ | ⟨g, cap, cur, e, hg, _⟩
  ·rw [e] at hq; cases hq
  ·rw [e] at hq; simp [Value.ownBlock] at hq; omega)
 unfold Fr.OwnW at HO
 obtain ⟨n, hl⟩ : ∃ n, L.length = n := ⟨_, rfl⟩
 rw [hl] at hn HO hcap HE HGe ⊢
 clear h hl
 generalize Fr.flatI L = xs at *
 obtain ⟨x1, x2⟩ := x
 dsimp only at *
 rcases Nat.eq_or_lt_of_le hcap with hcn | hcn
 ·subst hcn
  go_enter Tryz.func74, Tryz.ntmps74
  go_wp2_with (at_builtin; refine wpList_append_where _ rfl _ _ 49 rfl B 63 i0 _ 2 24 Tryz.underlying49 hi hz0 hz1 HZ2.out rfl (by decide) _ n xs rfl ?c0 ⟨vb, 0, none⟩ 1 1 [.int .i64 x1, .string x2] rfl rfl ?c1 ?c2 ?c3 ?c4 ?c5 ?_)
  case c0 => exact HO.out
  case c1 => exact two_cellsE HV.out
  case c2 => exact two_oneE _ _
  case c3 => unfold maxLen; omega
  case c4 => omega
  case c5 => exact hB
  intro u w2 hown hgrow hwh
  have HEnd : Hid (Fr.OwnW B w2 u (L ++ [(x1, x2)])) := HE.out _ _ hown
  have HBE : Hid (Below B w w2) := HB.out.grown hgrow hB HGe.out
  clear hown hgrow hwh
  go_wp2
  go_ret
  exact ⟨_, rfl, HEnd, HBE⟩
 ·have hcn2 : ¬ (c = n) := by omega
  go_enter Tryz.func74, Tryz.ntmps74
  go_wp2_with (at_builtin; refine wpList_append_where _ rfl _ _ 49 rfl B 63 i0 _ 2 24 Tryz.underlying49 hi hz0 hz1 HZ2.out rfl (by decide) _ n xs rfl ?c0 ⟨vb, 0, none⟩ 1 1 [.int .i64 x1, .string x2] rfl rfl ?c1 ?c2 ?c3 ?c4 ?c5 ?_)
  case c0 => exact HO.out
  case c1 => exact two_cellsE HV.out
  case c2 => exact two_oneE _ _
  case c3 => unfold maxLen; omega
  case c4 => omega
  case c5 => exact hB
  intro u w2 hown hgrow hwh
  have HEnd : Hid (Fr.OwnW B w2 u (L ++ [(x1, x2)])) := HE.out _ _ hown
  have HBE : Hid (Below B w w2) := HB.out.grown hgrow hB HGe.out
  clear hown hgrow hwh
  go_wp2
  go_ret
  exact ⟨_, rfl, HEnd, HBE⟩
theorem flatI_ins (L : List (Int × ByteArray)) (i : Nat) (x : Int × ByteArray) : Fr.flatI (L.take i ++ x :: L.drop i) = Fr.flatI (L.take i) ++ ([.int .i64 x.1, .string x.2] ++ Fr.flatI (L.drop i)) := by
 rw [Fr.flatI_append]; rfl
theorem laid_in (cur D P X : List Value) (i n c : Nat) (hc : cur.length = c * 2) (hn : n + 1 <= c) (hi : i < n) (hD : D.length = (n - i) * 2) (hX : X.length = 2) (hP : P = cur.take (i * 2)) :
  (((cur.take ((i + 1) * 2) ++ D ++ cur.drop ((i + 1) * 2 + D.length)).take (i * 2) ++ X ++ (cur.take ((i + 1) * 2) ++ D ++ cur.drop ((i + 1) * 2 + D.length)).drop (i * 2 + X.length)).take ((n + 1) * 2)) = P ++ (X ++ D) /\
  ((cur.take ((i + 1) * 2) ++ D ++ cur.drop ((i + 1) * 2 + D.length)).take (i * 2) ++ X ++ (cur.take ((i + 1) * 2) ++ D ++ cur.drop ((i + 1) * 2 + D.length)).drop (i * 2 + X.length)).length = c * 2 := by
 subst hP
 have l1 : (cur.take ((i + 1) * 2)).length = (i + 1) * 2 := by rw [List.length_take]; omega
 have e1 : (cur.take ((i + 1) * 2) ++ D ++ cur.drop ((i + 1) * 2 + D.length)).take (i * 2) = cur.take (i * 2) := by
  rw [List.append_assoc, List.take_append_of_le_length (by omega), List.take_take]
  congr 1; omega
 have e2 : (cur.take ((i + 1) * 2) ++ D ++ cur.drop ((i + 1) * 2 + D.length)).drop (i * 2 + X.length) = D ++ cur.drop ((i + 1) * 2 + D.length) := by
  rw [List.append_assoc, show i * 2 + X.length = (cur.take ((i + 1) * 2)).length by omega, List.drop_left]
 have l2 : (cur.take (i * 2)).length = i * 2 := by rw [List.length_take]; omega
 rw [e1, e2]
 constructor
 ·have hl : (cur.take (i * 2) ++ (X ++ D)).length = (n + 1) * 2 := by simp only [List.length_append]; omega
  rw [show cur.take (i * 2) ++ X ++ (D ++ cur.drop ((i + 1) * 2 + D.length)) = (cur.take (i * 2) ++ (X ++ D)) ++ cur.drop ((i + 1) * 2 + D.length) by simp, <- hl, List.take_left]
 ·simp only [List.length_append, List.length_drop]; omega
theorem overlaps_no {w : World} {vb g o lb cb : Nat} {cx cy : Array Value} (h1 : w.heap[vb]? = some (.cells cx 63 (0, 0))) (h2 : w.heap[g]? = some (.cells cy 63 (0, 0))) (hne : vb ≠ g) (hz : cy.size ≠ 0) :
  (callFunc 133 #[.slice (some ⟨vb, 0, none⟩) 1 1, .slice (some ⟨g, o, none⟩) lb cb]).run Tryz.prog w = .ok (.value (.bool false)) w := by
 obtain ⟨i0, hi, hz0, hz1, hz2⟩ := info_parts Tryz.infoW
 rw [run_callFunc_extern Tryz.func133 (by kernel_rfl) (by kernel_rfl) (by kernel_rfl) (e := Extern.SlicesOverlaps.overlaps #[49, 49] #[4]) (by kernel_rfl),
  Lib.run_overlaps_apart w 49 4 63 Tryz.underlying49 2 (fun w => by simp [sizeOf, typeInfo, hi, hz1]) ⟨vb, 0, none⟩ ⟨g, o, none⟩ 1 1 lb cb hne 63 63 cx.size cy.size (by simp [World.shape?, h1]) (by simp [World.shape?, h2]) hz (by simp [World.frozen?, h1]) (by simp [World.frozen?, h1])]
 rfl
set_option maxHeartbeats 4000000 in
theorem insert_room (L : List (Int × ByteArray)) (x : Int × ByteArray) (i g c vb B : Nat) (w : World) (h : Fr.OwnW B w (.slice (some ⟨g, 0, none⟩) L.length c) L) (hil : i < L.length) (hn : L.length <= 100000) (hc : L.length + 1 <= c) (hB : B <= w.heap.size) (hv : w.heap[vb]? = some (.cells #[.int .i64 x.1, .string x.2] 63 (0, 0))) (hne : vb ≠ g) :
  Calls Tryz.prog 74 #[.slice (some ⟨g, 0, none⟩) L.length c, .int .i64 (i : Int), .slice (some ⟨vb, 0, none⟩) 1 1] w fun e w' => ∃ u, e = .returned u /\ Hid (Fr.OwnW B w' u (L.take i ++ x :: L.drop i)) /\ Hid (Below B w w') := by
 have hfi := flatI_ins L i x
 rcases h.2 with ⟨e, _⟩ | ⟨g', cap, cur, e, hgB, hg, hnc, hcm, hcs, htk⟩
 ·cases e
 obtain ⟨rfl, rfl⟩ : g = g' /\ c = cap := by simpa using e
 have hhs : (Tryz.prog.info? 63).map (·.size) = some 2 := by
  obtain ⟨i0, hi, hz0, hz1, hz2⟩ := info_parts Tryz.infoW
  rw [hi]; simp [hz1]
 have hD : (Fr.flatI (L.drop i)).length = (L.length - i) * 2 := by rw [Fr.flatI_length, List.length_drop]
 have hP : Fr.flatI (L.take i) = cur.toList.take (i * 2) := by
  have e2 : cur.toList.take (i * 2) = (Fr.flatI L).take (i * 2) := by rw [<- htk, List.take_take]; congr 1; omega
  rw [e2]
  conv => rhs; rw [<- List.take_append_drop i L, Fr.flatI_append]
  rw [List.take_left' (by rw [Fr.flatI_length, List.length_take]; omega)]
 have hDc : ∀ j v, (Fr.flatI (L.drop i))[j]? = some v -> w.cell? ((⟨g, i * 2, none⟩ : Addr).add j) = some v := fun j v hj => by
  have e2 : (Fr.flatI L)[i * 2 + j]? = some v := by
   conv => lhs; rw [<- List.take_append_drop i L, Fr.flatI_append]
   rw [List.getElem?_append_right (by rw [Fr.flatI_length, List.length_take]; omega), Fr.flatI_length, List.length_take, show i * 2 + j - min i L.length * 2 = j by omega]
   exact hj
  rw [add_at, World.ownsRow.cellAt h (i * 2 + j) (by have := (List.getElem?_eq_some_iff.1 e2).1; rw [Fr.flatI_length] at this; exact this)]
  exact e2
 have hlaid := laid_in cur.toList (Fr.flatI (L.drop i)) (Fr.flatI (L.take i)) [.int .i64 x.1, .string x.2] i L.length c (by simpa using hcs) hc hil hD rfl hP
 have hDone := Fr.flatI_one (L.drop i)
 have HB := Lib.hid (Below.refl B w)
 obtain ⟨n, hl⟩ : ∃ n, L.length = n := ⟨_, rfl⟩
 have HE : Hid (∀ (w' : World) (row : Array Value), w'.heap[g]? = some (.cells row 63 (0, 0)) -> row.size = c * 2 -> row.toList.take ((n + 1) * 2) = Fr.flatI (L.take i) ++ ([.int .i64 x.1, .string x.2] ++ Fr.flatI (L.drop i)) -> Fr.OwnW B w' (.slice (some ⟨g, 0, none⟩) (n + 1) c) (L.take i ++ x :: L.drop i)) := fun w' row h1 h2 h3 => by
  have hlen : (L.take i ++ x :: L.drop i).length = n + 1 := by simp; omega
  unfold Fr.OwnW
  rw [hlen, hfi]
  exact ⟨by simp only [List.length_append, Fr.flatI_length, List.length_take, List.length_drop, List.length_cons, List.length_nil]; omega, .inr ⟨g, c, row, rfl, hgB, h1, by omega, hcm, h2, h3⟩⟩
 rw [hl] at hil hn hc hlaid hD ⊢
 clear h hl hfi htk hP e
 generalize Fr.flatI (L.drop i) = D at *
 generalize Fr.flatI (L.take i) = P at *
 obtain ⟨x1, x2⟩ := x
 dsimp only at *
 have hov : ∀ W o lb cb, W.heap = w.heap -> (callFunc 133 #[.slice (some ⟨vb, 0, none⟩) 1 1, .slice (some ⟨g, o, none⟩) lb cb]).run Tryz.prog W = .ok (.value (.bool false)) W := fun W o lb cb hW => overlaps_no (by rw [hW]; exact hv) (by rw [hW]; exact hg) hne (by omega)
 obtain ⟨row1, hr1⟩ : ∃ row1 : Array Value, row1 = (cur.toList.take ((i + 1) * 2) ++ D ++ cur.toList.drop ((i + 1) * 2 + D.length)).toArray := ⟨_, rfl⟩
 have hr1l : row1.toList = cur.toList.take ((i + 1) * 2) ++ D ++ cur.toList.drop ((i + 1) * 2 + D.length) := by rw [hr1]
 have hr1s : row1.size = c * 2 := by rw [<- Array.length_toList, hr1l]; simp; omega
 have hmin : Nat.min (n - i) (n + 1 - (i + 1)) = n - i := by simp only [Nat.min_def]; split <;> omega
 have hcp1 : ∀ (W : World) ty dc sc dl sl, (∀ k, k < w.heap.size -> W.heap[k]? = w.heap[k]?) -> Nat.min sl dl = n - i -> (Builtin.copy_ #[49, 49] ty #[.slice (some ⟨g, (i + 1) * 2, none⟩) dl dc, .slice (some ⟨g, i * 2, none⟩) sl sc]).run Tryz.prog W = .ok (goInt (n - i : Nat)) (W.setRow g row1) := fun W ty dc sc dl sl hW hmn => by
  have hgl := (Array.getElem?_eq_some_iff.1 hg).1
  rw [hr1, <- hmn]
  exact run_copy_wide W _ _ ty 63 2 g ((i + 1) * 2) dl dc ⟨g, i * 2, none⟩ sl sc cur 63 D Tryz.underlying49 hhs (by rw [hW g hgl]; exact hg) (by rw [hmn]; exact hD) (fun j v hj => by
   have := hDc j v hj
   rw [add_at] at this ⊢
   rw [World.cell?_of_block (w := w) (w' := W) (a := ⟨g, i * 2 + j, none⟩) (hW g hgl)]; exact this) (by omega) hDone
 have hcp2 : ∀ (W : World) ty dc dl, W.heap[g]? = some (.cells row1 63 (0, 0)) -> W.heap[vb]? = some (.cells #[.int .i64 x1, .string x2] 63 (0, 0)) -> Nat.min 1 dl = 1 -> (Builtin.copy_ #[49, 49] ty #[.slice (some ⟨g, i * 2, none⟩) dl dc, .slice (some ⟨vb, 0, none⟩) 1 1]).run Tryz.prog W = .ok (goInt (1 : Nat)) (W.setRow g (row1.toList.take (i * 2) ++ [Value.int .i64 x1, Value.string x2] ++ row1.toList.drop (i * 2 + 2)).toArray) := fun W ty dc dl h1 h2 hmn => by
  have := run_copy_wide (P := Tryz.prog) W 49 49 ty 63 2 g (i * 2) dl dc ⟨vb, 0, none⟩ 1 1 row1 63 [Value.int .i64 x1, Value.string x2] Tryz.underlying49 hhs h1 (by rw [hmn]; rfl) (two_cellsE h2) (by simp; omega) (two_oneE _ _)
  rw [hmn] at this
  exact this
 have HFin : Hid (∀ W : World, W.heap[g]? = some (.cells row1 63 (0, 0)) -> Fr.OwnW B (W.setRow g (row1.toList.take (i * 2) ++ [Value.int .i64 x1, Value.string x2] ++ row1.toList.drop (i * 2 + 2)).toArray) (.slice (some ⟨g, 0, none⟩) (n + 1) c) (L.take i ++ (x1, x2) :: L.drop i)) := fun W hq => by
  refine HE.out _ _ (setRow_heap W g row1 _ 63 _ hq) ?_ ?_
  ·rw [<- Array.length_toList, hr1l]; exact hlaid.2
  ·show List.take _ (_ ++ _ ++ _) = _
   rw [hr1l]; exact hlaid.1
 have HB1 : Hid (∀ W W' : World, Below B w W -> W' = W.setRow g row1 -> Below B w W') := fun W W' h e => by rw [e]; exact below_setRow h hgB _
 have HB2 : Hid (∀ W : World, Below B w W -> Below B w (W.setRow g (row1.toList.take (i * 2) ++ [Value.int .i64 x1, Value.string x2] ++ row1.toList.drop (i * 2 + 2)).toArray)) := fun W h => below_setRow h hgB _
 generalize (row1.toList.take (i * 2) ++ [Value.int .i64 x1, Value.string x2] ++ row1.toList.drop (i * 2 + 2)).toArray = row2 at *
 have HG1 : Hid (∀ W : World, W.heap = w.heap -> (W.setRow g row1).heap[g]? = some (.cells row1 63 (0, 0)) /\ (W.setRow g row1).heap[vb]? = some (.cells #[.int .i64 x1, .string x2] 63 (0, 0))) := fun W h => ⟨setRow_heap W g cur _ 63 _ (by rw [h]; exact hg), (setRow_other W g vb _ hne).trans (by rw [h]; exact hv)⟩
 have hin : (i : Int) <= (n : Int) := by omega
 have hz2 : ¬ ((i : Int) = (n : Int)) := by omega
 have hw1 : IntKind.i64.wrap ((i : Int) + 1) = (i : Int) + 1 := IntWalk.i64_in _ (by omega)
 have hw2 : IntKind.i64.wrap ((n : Int) + 1) = (n : Int) + 1 := IntWalk.i64_in _ (by omega)
 have hb1 : (0 : Int) <= (i : Int) + 1 := by omega
 have htn : ((i : Int) + 1).toNat = i + 1 := by omega
 have htn2 : ((n : Int) + 1).toNat = n + 1 := by omega
 have hb2 : ¬ (c = i + 1) := by omega
 have hb3 : (i : Int) <= (n : Int) + 1 := by omega
 have hb4 : ¬ (c = i) := by omega
 have hb5 : ¬ ((c : Int) < (n : Int) + 1) := by omega
 have hb6 : (n : Int) + 1 <= (c : Int) := by omega
 have hb7 : (i : Int) + 1 <= (n : Int) + 1 := by omega
 have hb8 : (0 : Int) <= (n : Int) + 1 := by omega
 have hm1 : Nat.min (n + 1 - i) (n - i) = n - i := by simp only [Nat.min_def]; split <;> omega
 have hm2 : Nat.min 1 (n + 1 - i) = 1 := by simp only [Nat.min_def]; split <;> omega
 clear hlaid hr1 hr1l hr1s hmin hDc hD hDone hhs hcs hcm HE
 go_enter Tryz.func74, Tryz.ntmps74
 go_wp2_with fail
 go_region_law (refine step_run rfl (ex_copy rfl (x := .slice (some ⟨g, (i + 1) * 2, none⟩) (n - i) (c - (i + 1))) (y := .slice (some ⟨g, i * 2, none⟩) (n + 1 - i) (c - i)) (by kernel_rfl) (by kernel_rfl) (hcp1 _ _ _ _ _ _ (fun _ _ => rfl) hm1)) ?_)
 have hbel : Below B w (w.drew.setRow g row1) := HB1.out _ _ (Below.refl B w).drew rfl
 obtain ⟨hrow, hvb⟩ := HG1.out w.drew rfl
 generalize w.drew.setRow g row1 = W2 at *
 have HH := Lib.hid (HFin.out W2 hrow)
 have HBE := Lib.hid (HB2.out W2 hbel)
 have hcp3 := fun ty dc => hcp2 W2 ty dc (n + 1 - i) hrow hvb hm2
 clear hcp2 hcp1 hov HFin HB1 HB2 HG1 hrow hvb hbel hg hv
 go_wp2_with (at_builtin; refine wpList_runs rfl (ex_copy rfl rfl rfl (hcp3 _ _)) ?_)
 go_ret
 exact ⟨_, rfl, HH, HBE⟩
theorem laid_in2 (ROW D P X : List Value) (i n G : Nat) (hc : ROW.length = G * 2) (hn : n + 1 <= G) (hi : i < n) (hD : D.length = (n - i) * 2) (hX : X.length = 2) (hP : ROW.take (i * 2) = P) :
  (((ROW.take (i * 2) ++ X ++ ROW.drop (i * 2 + X.length)).take ((i + 1) * 2) ++ D ++ (ROW.take (i * 2) ++ X ++ ROW.drop (i * 2 + X.length)).drop ((i + 1) * 2 + D.length)).take ((n + 1) * 2)) = P ++ (X ++ D) /\
  ((ROW.take (i * 2) ++ X ++ ROW.drop (i * 2 + X.length)).take ((i + 1) * 2) ++ D ++ (ROW.take (i * 2) ++ X ++ ROW.drop (i * 2 + X.length)).drop ((i + 1) * 2 + D.length)).length = G * 2 /\ (ROW.take (i * 2) ++ X ++ ROW.drop (i * 2 + X.length)).length = G * 2 := by
 have lP : P.length = i * 2 := by rw [<- hP, List.length_take]; omega
 rw [hP]
 have e1 : (P ++ X ++ ROW.drop (i * 2 + X.length)).take ((i + 1) * 2) = P ++ X := by
  rw [show (i + 1) * 2 = (P ++ X).length by simp; omega, List.take_left]
 have l2 : (P ++ X ++ ROW.drop (i * 2 + X.length)).length = G * 2 := by simp only [List.length_append, List.length_drop]; omega
 refine ⟨?_, ?_, l2⟩
 ·rw [e1, show (n + 1) * 2 = (P ++ X ++ D).length by simp only [List.length_append]; omega, List.take_left]
  simp
 ·rw [e1]; simp only [List.length_append, List.length_drop]; omega
set_option maxHeartbeats 4000000 in
theorem insert_grow (L : List (Int × ByteArray)) (x : Int × ByteArray) (i g vb B : Nat) (w : World) (h : Fr.OwnW B w (.slice (some ⟨g, 0, none⟩) L.length L.length) L) (hil : i < L.length) (hn : L.length <= 100000) (hB : B <= w.heap.size) (hv : w.heap[vb]? = some (.cells #[.int .i64 x.1, .string x.2] 63 (0, 0))) :
  Calls Tryz.prog 74 #[.slice (some ⟨g, 0, none⟩) L.length L.length, .int .i64 (i : Int), .slice (some ⟨vb, 0, none⟩) 1 1] w fun e w' => ∃ u, e = .returned u /\ Hid (Fr.OwnW B w' u (L.take i ++ x :: L.drop i)) /\ Hid (Below B w w') := by
 have hfi := flatI_ins L i x
 obtain ⟨i0, hi0, hz0, hz1, hz2⟩ := info_parts Tryz.infoW
 have hhs : (Tryz.prog.info? 63).map (·.size) = some 2 := by rw [hi0]; simp [hz1]
 have hgl : g < w.heap.size := by
  rcases h.2 with ⟨e, _⟩ | ⟨g', cap, cur, e, _, hg, _⟩
  ·cases e
  ·obtain ⟨rfl, _⟩ : g = g' /\ L.length = cap := by simpa using e
   exact (Array.getElem?_eq_some_iff.1 hg).1
 have hcells : ∀ j v, (Fr.flatI L)[j]? = some v -> w.cell? ⟨g, j, none⟩ = some v := fun j v hj => by
  rw [World.ownsRow.cellAt h j (by have := (List.getElem?_eq_some_iff.1 hj).1; rw [Fr.flatI_length] at this; exact this)]
  exact hj
 have hsplit : Fr.flatI L = Fr.flatI (L.take i) ++ Fr.flatI (L.drop i) := by rw [<- Fr.flatI_append, List.take_append_drop]
 have lP : (Fr.flatI (L.take i)).length = i * 2 := by rw [Fr.flatI_length, List.length_take]; omega
 have hD : (Fr.flatI (L.drop i)).length = (L.length - i) * 2 := by rw [Fr.flatI_length, List.length_drop]
 have hPc : ∀ j v, (Fr.flatI (L.take i))[j]? = some v -> w.cell? ⟨g, j, none⟩ = some v := fun j v hj => hcells j v (by rw [hsplit, List.getElem?_append_left (List.getElem?_eq_some_iff.1 hj).1]; exact hj)
 have hDc : ∀ j v, (Fr.flatI (L.drop i))[j]? = some v -> w.cell? ⟨g, i * 2 + j, none⟩ = some v := fun j v hj => hcells _ v (by rw [hsplit, List.getElem?_append_right (by omega), lP, show i * 2 + j - i * 2 = j by omega]; exact hj)
 have hDone := Fr.flatI_one (L.drop i)
 have hvl := (Array.getElem?_eq_some_iff.1 hv).1
 have HB := Lib.hid (Below.refl B w)
 obtain ⟨n, hl⟩ : ∃ n, L.length = n := ⟨_, rfl⟩
 have HE : Hid (∀ (w' : World) (row : Array Value) (G : Nat), w'.heap[w.heap.size]? = some (.cells row 63 (0, 0)) -> n + 1 <= G -> G <= maxLen -> row.size = G * 2 -> row.toList.take ((n + 1) * 2) = Fr.flatI (L.take i) ++ ([.int .i64 x.1, .string x.2] ++ Fr.flatI (L.drop i)) -> Fr.OwnW B w' (.slice (some ⟨w.heap.size, 0, none⟩) (n + 1) G) (L.take i ++ x :: L.drop i)) := fun w' row G h1 h4 h5 h2 h3 => by
  have hlen : (L.take i ++ x :: L.drop i).length = n + 1 := by simp; omega
  unfold Fr.OwnW
  rw [hlen, hfi]
  exact ⟨by simp only [List.length_append, Fr.flatI_length, List.length_take, List.length_drop, List.length_cons, List.length_nil]; omega, .inr ⟨w.heap.size, G, row, rfl, hB, h1, h4, h5, h2, h3⟩⟩
 rw [hl] at hil hn hD ⊢
 clear h hl hfi hcells hsplit
 generalize Fr.flatI (L.drop i) = D at *
 generalize Fr.flatI (L.take i) = P at *
 obtain ⟨x1, x2⟩ := x
 dsimp only at *
 have hold : (Builtin.firstCells i0.size i (.slice (some ⟨g, 0, none⟩) i n)).run Tryz.prog w.drew = .ok P.toArray w.drew := by
  rw [hz1]
  exact run_firstCells_some w.drew 2 i ⟨g, 0, none⟩ i n P lP (fun j v hj => by rw [add_at, Nat.zero_add]; exact hPc j v hj)
 have hkk : (n : Int) + 1 - (i : Int) = ((n + 1 - i : Nat) : Int) := by omega
 have hik : i + (n + 1 - i) = n + 1 := by omega
 have hrz : ∀ ty, (Builtin.append_ #[49, 3] ty #[.slice (some ⟨g, 0, none⟩) i n, .int .i64 ((n : Int) + 1 - (i : Int))]).run Tryz.prog w = .ok (.slice (some ⟨w.heap.size, 0, none⟩) (n + 1) (grownCap w (n + 1) n 63)) (w.drew.alloc (.cells (P.toArray ++ Builtin.zeroCells (Value.agg #[.int .i64 0, .string ⟨#[]⟩]).cells (n + 1 - i) ++ Builtin.zeroCells (Value.agg #[.int .i64 0, .string ⟨#[]⟩]).cells (grownCap w (n + 1) n 63 - (n + 1))) 63)) := fun ty => by
  have h := Lib.run_append_grow_zeros (P := Tryz.prog) w 49 3 ty 63 i0 _ .i64 .i64 Tryz.underlying49 Tryz.underlying3 hi0 hz0 (some ⟨g, 0, none⟩) i n P hold (n + 1 - i) (by omega) (by omega) (by omega) (by omega) (by rw [hz2]; omega) (by rw [hz2, hik]; exact growslice_fits (by omega) (by omega))
  rw [hik] at h
  rw [hkk]
  exact h
 have hGn : n + 1 <= grownCap w (n + 1) n 63 := grownCap_ge w _ _ _
 have hG63 : grownCap w (n + 1) n 63 <= maxLen := grownCap_le_maxLen w (n + 1) n 63 (by unfold maxLen; omega)
 generalize grownCap w (n + 1) n 63 = G at *
 obtain ⟨ROW, hROW⟩ : ∃ ROW : Array Value, ROW = P.toArray ++ Builtin.zeroCells (Value.agg #[.int .i64 0, .string ⟨#[]⟩]).cells (n + 1 - i) ++ Builtin.zeroCells (Value.agg #[.int .i64 0, .string ⟨#[]⟩]).cells (G - (n + 1)) := ⟨_, rfl⟩
 have hRs : ROW.size = G * 2 := by rw [hROW]; simp [Builtin.zeroCells, Value.cells]; omega
 have hRP : ROW.toList.take (i * 2) = P := by rw [hROW]; simp only [Array.toList_append, List.append_assoc]; rw [<- lP, List.take_left]
 rw [<- hROW] at hrz
 clear hROW hkk hik hold hPc
 have hlaid := laid_in2 ROW.toList D P [Value.int .i64 x1, Value.string x2] i n G (by simpa using hRs) hGn hil hD rfl hRP
 obtain ⟨W1, hW1⟩ : ∃ W1, W1 = w.drew.alloc (.cells ROW 63) := ⟨_, rfl⟩
 have hN1 : W1.heap[w.heap.size]? = some (.cells ROW 63 (0, 0)) := by rw [hW1]; exact heap_alloc_new w.drew (.cells ROW 63)
 have hlow : ∀ k, k < w.heap.size -> W1.heap[k]? = w.heap[k]? := fun k hk => by
  rw [hW1]; exact (((Below.refl w.heap.size w).drew.alloc (Nat.le_refl _) _).block k hk)
 have hB1 : Below B w W1 := by rw [hW1]; exact (Below.refl B w).drew.alloc hB _
 rw [<- hW1] at hrz
 obtain ⟨r1, hr1⟩ : ∃ r1 : Array Value, r1 = (ROW.toList.take (i * 2) ++ [Value.int .i64 x1, Value.string x2] ++ ROW.toList.drop (i * 2 + 2)).toArray := ⟨_, rfl⟩
 have hr1l : r1.toList = ROW.toList.take (i * 2) ++ [Value.int .i64 x1, Value.string x2] ++ ROW.toList.drop (i * 2 + 2) := by rw [hr1]
 have hr1s : r1.size = G * 2 := by rw [<- Array.length_toList, hr1l]; exact hlaid.2.2
 have hm1 : Nat.min 1 (n + 1 - i) = 1 := by simp only [Nat.min_def]; split <;> omega
 have hm2 : Nat.min (n - i) (n - i) = n - i := by simp
 have hcpA : ∀ ty dc, (Builtin.copy_ #[49, 49] ty #[.slice (some ⟨w.heap.size, i * 2, none⟩) (n + 1 - i) dc, .slice (some ⟨vb, 0, none⟩) 1 1]).run Tryz.prog W1 = .ok (goInt (1 : Nat)) (W1.setRow w.heap.size r1) := fun ty dc => by
  have := run_copy_wide (P := Tryz.prog) W1 49 49 ty 63 2 w.heap.size (i * 2) (n + 1 - i) dc ⟨vb, 0, none⟩ 1 1 ROW 63 [.int .i64 x1, .string x2] Tryz.underlying49 hhs hN1 (by rw [hm1]; rfl) (two_cellsE ((hlow vb hvl).trans hv)) (by simp; omega) (two_oneE _ _)
  rw [hm1] at this
  rw [hr1]; exact this
 have hN2 : (W1.setRow w.heap.size r1).heap[w.heap.size]? = some (.cells r1 63 (0, 0)) := setRow_heap W1 _ ROW _ 63 _ hN1
 have hg2 : (W1.setRow w.heap.size r1).heap[g]? = w.heap[g]? := (setRow_other W1 _ g _ (by omega)).trans (hlow g hgl)
 have hB2 : Below B w (W1.setRow w.heap.size r1) := below_setRow hB1 hB _
 obtain ⟨W2, hW2⟩ : ∃ W2, W2 = W1.setRow w.heap.size r1 := ⟨_, rfl⟩
 rw [<- hW2] at hcpA hN2 hg2 hB2
 obtain ⟨r2, hr2⟩ : ∃ r2 : Array Value, r2 = (r1.toList.take ((i + 1) * 2) ++ D ++ r1.toList.drop ((i + 1) * 2 + D.length)).toArray := ⟨_, rfl⟩
 have hr2l : r2.toList = r1.toList.take ((i + 1) * 2) ++ D ++ r1.toList.drop ((i + 1) * 2 + D.length) := by rw [hr2]
 have hcpB : ∀ ty dc sc, (Builtin.copy_ #[49, 49] ty #[.slice (some ⟨w.heap.size, (i + 1) * 2, none⟩) (n - i) dc, .slice (some ⟨g, i * 2, none⟩) (n - i) sc]).run Tryz.prog W2.drew = .ok (goInt (n - i : Nat)) (W2.drew.setRow w.heap.size r2) := fun ty dc sc => by
  have := run_copy_wide (P := Tryz.prog) W2.drew 49 49 ty 63 2 w.heap.size ((i + 1) * 2) (n - i) dc ⟨g, i * 2, none⟩ (n - i) sc r1 63 D Tryz.underlying49 hhs hN2 (by rw [hm2]; exact hD) (fun j v hj => by
   rw [add_at, World.cell?_of_block (w := w) (w' := W2.drew) (a := ⟨g, i * 2 + j, none⟩) hg2]; exact hDc j v hj) (by omega) hDone
  rw [hm2] at this
  rw [hr2]; exact this
 have HH : Hid (Fr.OwnW B (W2.drew.setRow w.heap.size r2) (.slice (some ⟨w.heap.size, 0, none⟩) (n + 1) G) (L.take i ++ (x1, x2) :: L.drop i)) := by
  refine HE.out _ r2 G (setRow_heap W2.drew _ r1 _ 63 _ hN2) hGn hG63 ?_ ?_
  ·rw [<- Array.length_toList, hr2l, hr1l]; exact hlaid.2.1
  ·rw [hr2l, hr1l]; exact hlaid.1
 have HBE : Hid (Below B w (W2.drew.setRow w.heap.size r2)) := below_setRow hB2.drew hB _
 have hin : (i : Int) <= (n : Int) := by omega
 have hz2' : ¬ ((i : Int) = (n : Int)) := by omega
 have hw1 : IntKind.i64.wrap ((i : Int) + 1) = (i : Int) + 1 := IntWalk.i64_in _ (by omega)
 have hw2 : IntKind.i64.wrap ((n : Int) + 1) = (n : Int) + 1 := IntWalk.i64_in _ (by omega)
 have hw3 : IntKind.i64.wrap ((n : Int) + 1 - (i : Int)) = (n : Int) + 1 - (i : Int) := IntWalk.i64_in _ (by omega)
 have hb1 : (0 : Int) <= (i : Int) + 1 := by omega
 have htn : ((i : Int) + 1).toNat = i + 1 := by omega
 have hb2 : ¬ (G = i + 1) := by omega
 have hb3 : (i : Int) <= (n : Int) + 1 := by omega
 have hb4 : ¬ (G = i) := by omega
 have hb5 : (n : Int) < (n : Int) + 1 := by omega
 have hb7 : (i : Int) + 1 <= (n : Int) + 1 := by omega
 have hb9 : ¬ (n = i) := by omega
 clear hlaid hr1 hr1l hr1s hr2 hr2l hN1 hlow hB1 hN2 hg2 hB2 hDc hD hDone hhs HE hW1 hW2 hRs hRP hv hi0 hz0 hz1 hz2 hGn hG63
 go_enter Tryz.func74, Tryz.ntmps74
 go_wp2_with (at_builtin; first
  | refine wpList_runs rfl (ex_append rfl rfl rfl (hrz _)) ?_
  | refine wpList_runs rfl (ex_copy rfl rfl rfl (hcpA _ _)) ?_)
 go_region_law (refine step_run rfl (ex_copy rfl (x := .slice (some ⟨w.heap.size, (i + 1) * 2, none⟩) (n - i) (G - (i + 1))) (y := .slice (some ⟨g, i * 2, none⟩) (n - i) (n - i)) (by kernel_rfl) (by kernel_rfl) (hcpB _ _ _)) ?_)
 go_wp2
 go_ret
 exact ⟨_, rfl, HH, HBE⟩
theorem insert_any (L : List (Int × ByteArray)) (v : Value) (x : Int × ByteArray) (i vb B : Nat) (w : World) (h : Fr.OwnW B w v L) (hil : i <= L.length) (hn : L.length <= 100000) (hB : B <= w.heap.size) (hv : w.heap[vb]? = some (.cells #[.int .i64 x.1, .string x.2] 63 (0, 0))) (hne : v.ownBlock ≠ some vb) :
  Calls Tryz.prog 74 #[v, .int .i64 (i : Int), .slice (some ⟨vb, 0, none⟩) 1 1] w fun e w' => ∃ u, e = .returned u /\ Hid (Fr.OwnW B w' u (L.take i ++ x :: L.drop i)) /\ Hid (Below B w w') := by
 by_cases hi : i < L.length
 ·obtain ⟨g, c, rfl, hc, _⟩ := h.here (by omega)
  by_cases hr : L.length + 1 <= c
  ·exact insert_room L x i g c vb B w h hi hn hr hB hv (fun e => hne (by rw [e]; rfl))
  ·obtain rfl : c = L.length := by omega
   exact insert_grow L x i g vb B w h hi hn hB hv
 ·obtain rfl : i = L.length := by omega
  rw [List.take_length, List.drop_length]
  exact insert_end L v x vb B w h hn hB hv
end Go.Proofs.YthambopnmhkeeaaGreat
