/- The map of a cache: its elements are structs of three cells; what a look-up, a store and a deletion make of the list that it says. -/
import Derived.Test.YthambopnmhkeeaaGreatZCMath
import Derived.Test.YthambopnmhkeeaaGreatZBase
import Derived.Maps.OwnSet
import Derived.Maps.Ext
import Derived.Maps.RangeWalk

namespace Go.Proofs.YthambopnmhkeeaaGreat.Ca
open Go.RowKit Go.Maps
open Go.WideElems (Fit)
def Kp.val (x : Kp) : Value := .agg #[.string x.data, .bool x.dirty, .int .i64 (x.pins : Int)]
def Kp.dat (x : Kp) : DataW Unit := .agg [.lit (.string x.data.data.toList), .lit (.bool x.dirty), .lit (.int .i64 (x.pins : Int))]
def stE : Value -> Option (DataW Unit × List MemPlace)
 | .agg cs => match cs.toList with
  | [.string s, .bool d, .int .i64 p] => some (.agg [.lit (.string s.data.toList), .lit (.bool d), .lit (.int .i64 p)], [])
  | _ => none
 | _ => none
theorem stE_mk (s : ByteArray) (d : Bool) (p : Int) : stE (.agg #[.string s, .bool d, .int .i64 p]) = some (.agg [.lit (.string s.data.toList), .lit (.bool d), .lit (.int .i64 p)], []) := rfl
theorem stE_val (x : Kp) : stE x.val = some (x.dat, []) := rfl
theorem stE_inv {v : Value} {y : DataW Unit × List MemPlace} (h : stE v = some y) : ∃ s d p, v = .agg #[.string s, .bool d, .int .i64 p] /\ y = (.agg [.lit (.string s.data.toList), .lit (.bool d), .lit (.int .i64 p)], []) := by
 unfold stE at h
 split at h
 ·rename_i cs
  split at h
  ·rename_i s d p e
   cases h
   refine ⟨s, d, p, ?_, rfl⟩
   congr 1
   exact Array.toList_inj.1 (by simpa using e)
  ·cases h
 ·cases h
theorem stE_dat {v : Value} {x : Kp} {ps : List MemPlace} (h : stE v = some (x.dat, ps)) : v = x.val := by
 obtain ⟨s, d, p, rfl, e⟩ := stE_inv h
 have e1 := congrArg Prod.fst e
 simp only [Kp.dat, DataW.agg.injEq, List.cons.injEq, DataW.lit.injEq, Lit.string.injEq, Lit.bool.injEq, Lit.int.injEq, true_and, and_true] at e1
 obtain ⟨e1, rfl, rfl⟩ := e1
 have : s = x.data := by
  cases s; rename_i a; cases hx : x.data; rename_i b
  rw [hx] at e1
  exact congrArg ByteArray.mk (Array.toList_inj.1 e1.symm)
 rw [this]; rfl
theorem stE_zero {v : Value} {ps : List MemPlace} (h : stE v = some (.agg [.lit (.string []), .lit (.bool false), .lit (.int .i64 0)], ps)) : v = .agg #[.string ⟨#[]⟩, .bool false, .int .i64 0] :=
 stE_dat (x := ⟨0, ⟨#[]⟩, false, 0⟩) h
abbrev kl (i : Int) : Lit := .int .i64 i
def ent (x : Kp) : Lit × DataW Unit := (kl x.key, x.dat)
def toD (L : List Kp) : DataW Unit := .map ((L.map ent).foldr DataW.insert [])
abbrev klaw : Keyed Tryz.prog 3 := int_keyed Tryz.underlying3
theorem wfI {i : Int} (h : -9223372036854775808 <= i /\ i <= 9223372036854775807) : (Lit.int .i64 i).wf = true := by
 simp only [Lit.wf, Bool.and_eq_true, decide_eq_true_eq]; exact h
theorem keyI {i : Int} (h : -9223372036854775808 <= i /\ i <= 9223372036854775807) : keyOf Tryz.prog 3 (.int .i64 i) = some (kl i) := keyOf_int_mk Tryz.underlying3 (wfI h)
def KO (l : Lit) : Prop := KeysOf Tryz.prog 3 l
theorem ko {i : Int} (h : -9223372036854775808 <= i /\ i <= 9223372036854775807) : KO (kl i) := ⟨_, keyI h⟩
def Wf (L : List Kp) : Prop := ∀ x ∈ L, -9223372036854775808 <= x.key /\ x.key <= 9223372036854775807
theorem keys_ent {L : List Kp} (h : Wf L) : Keys (KeysOf Tryz.prog 3) (L.map ent) := by
 intro p hp
 obtain ⟨x, hx, rfl⟩ := List.mem_map.1 hp
 exact ko (h x hx)
theorem apart_ent {L : List Kp} (h : (keys L).Nodup) : (L.map ent).Pairwise (fun p q => p.1 ≠ q.1) := by
 rw [List.pairwise_map]
 have h' : L.Pairwise fun x y => x.key ≠ y.key := List.pairwise_map.1 h
 exact h'.imp (fun {a b} hab e => hab (by simpa [ent, kl] using e))
theorem notKey_ent (x : Kp) (i : Int) : ChangeMaps.notKey (kl i) (ent x) = !(x.key == i) := by
 unfold ChangeMaps.notKey ent
 by_cases e : x.key = i
 ·subst e; rw [WideAt.sameKey_self (show WideAt.IsKeyLit (kl x.key) from trivial)]; simp
 ·rw [sameKey_ne (by simpa [kl] using e)]; simp [e]
theorem filter_ent (L : List Kp) (i : Int) : (L.map ent).filter (ChangeMaps.notKey (kl i)) = (L.filter fun x => !(x.key == i)).map ent := by
 induction L with
 | nil => rfl
 | cons x r ih => simp only [List.map_cons, List.filter_cons, notKey_ent, ih]; split <;> simp_all
theorem toD_perm {L M : List Kp} (hp : L.Perm M) (hn : (keys L).Nodup) (hw : Wf L) : toD L = toD M := by
 have hnM : (keys M).Nodup := (hp.map _).nodup_iff.1 hn
 have hwM : Wf M := fun x hx => hw x (hp.mem_iff.2 hx)
 unfold toD
 congr 1
 exact ChangeMaps.eq_of_perm_sorted (((WideShapes.sorted_perm _).trans (hp.map ent)).trans (WideShapes.sorted_perm _).symm) (sorted_sorted klaw.one _ (keys_ent hw) (apart_ent hn)) (sorted_sorted klaw.one _ (keys_ent hwM) (apart_ent hnM))
theorem filter_not_mem {L : List Kp} {i : Int} (h : i ∉ keys L) : (L.filter fun x => !(x.key == i)) = L := by
 refine List.filter_eq_self.2 fun x hx => ?_
 have : x.key ≠ i := fun e => h (List.mem_map.2 ⟨x, hx, e⟩)
 simp [this]
theorem filter_erase {L : List Kp} (hn : (keys L).Nodup) {i : Int} {k : Nat} {x : Kp} (h : fx L i = some (k, x)) : (L.filter fun x => !(x.key == i)) = L.eraseIdx k := by
 induction L generalizing k with
 | nil => cases h
 | cons y r ih =>
  obtain ⟨h1, h2⟩ := List.nodup_cons.1 (show (y.key :: keys r).Nodup from hn)
  unfold fx at h
  split at h
  ·rename_i e
   simp at h
   obtain ⟨rfl, rfl⟩ := h
   rw [List.filter_cons, if_neg (by simp [e]), List.eraseIdx_cons_zero]
   exact filter_not_mem (by rw [<- e]; exact h1)
  ·rename_i e
   simp only [Option.map_eq_some_iff, Prod.mk.injEq] at h
   obtain ⟨⟨k', x'⟩, h', rfl, rfl⟩ := h
   rw [List.filter_cons, if_pos (by simp [e]), List.eraseIdx_cons_succ, ih h2 h']
theorem toD_put {L M : List Kp} {y : Kp} (hn : (keys L).Nodup) (hw : Wf L) (hy : -9223372036854775808 <= y.key /\ y.key <= 9223372036854775807) (hp : M.Perm (y :: L.filter fun x => !(x.key == y.key))) : (toD L).put (kl y.key) y.dat = toD M := by
 unfold toD
 rw [DataW.put_eq]
 congr 1
 exact (sorted_put klaw.one (ko hy) (keys_ent hw) (apart_ent hn) (by rw [filter_ent]; exact hp.map ent)).symm
theorem toD_put_front {L : List Kp} {i : Int} {k : Nat} {x y : Kp} (hn : (keys L).Nodup) (hw : Wf L) (h : fx L i = some (k, x)) (hy : y.key = i) : (toD L).put (kl i) y.dat = toD (y :: L.eraseIdx k) := by
 subst hy
 obtain ⟨hk, h1, h2, _⟩ := fx_some h
 exact toD_put hn hw (by rw [<- h2]; exact hw x (fx_mem h)) (by rw [filter_erase hn h])
theorem toD_put_set {L : List Kp} {i : Int} {k : Nat} {x y : Kp} (hn : (keys L).Nodup) (hw : Wf L) (h : fx L i = some (k, x)) (hy : y.key = i) : (toD L).put (kl i) y.dat = toD (L.set k y) := by
 subst hy
 obtain ⟨hk, h1, h2, _⟩ := fx_some h
 refine toD_put hn hw (by rw [<- h2]; exact hw x (fx_mem h)) ?_
 rw [filter_erase hn h]
 have := perm_front (L := L.set k y) (k := k) (by simpa using hk)
 simp only [List.getElem_set_self, List.eraseIdx_set_eq] at this
 exact this.symm
theorem toD_put_new {L : List Kp} {y : Kp} (hn : (keys L).Nodup) (hw : Wf L) (hy : -9223372036854775808 <= y.key /\ y.key <= 9223372036854775807) (h : fx L y.key = none) : (toD L).put (kl y.key) y.dat = toD (y :: L) :=
 toD_put hn hw hy (by rw [filter_not_mem (fx_none_iff.1 h)])
theorem toD_del {L : List Kp} {i : Int} {k : Nat} {x : Kp} (hn : (keys L).Nodup) (hw : Wf L) (h : fx L i = some (k, x)) : (toD L).del (kl i) = toD (L.eraseIdx k) := by
 unfold toD
 rw [DataW.del_eq]
 congr 1
 exact (sorted_del klaw.one (keys_ent hw) (apart_ent hn) (by rw [filter_ent, filter_erase hn h])).symm
theorem any_sorted (f : Lit × DataW Unit -> Bool) (l : List (Lit × DataW Unit)) : (l.foldr DataW.insert []).any f = l.any f := by
 induction l with
 | nil => rfl
 | cons x r ih => rw [List.foldr_cons, any_insert, ih]; rfl
theorem has_toD (L : List Kp) (i : Int) : Maps.has (toD L) (kl i) = decide (i ∈ keys L) := by
 unfold toD
 rw [has_eq, any_sorted, List.any_map]
 rw [Bool.eq_iff_iff]
 simp only [List.any_eq_true, Function.comp, decide_eq_true_eq, keys, List.mem_map]
 constructor
 ·rintro ⟨x, hx, e⟩
  have := WideAt.sameKey_eq e
  exact ⟨x, hx, by simpa [ent, kl] using this⟩
 ·rintro ⟨x, hx, rfl⟩
  exact ⟨x, hx, WideAt.sameKey_self (show WideAt.IsKeyLit (kl x.key) from trivial)⟩
theorem has_yes {L : List Kp} {i : Int} {k : Nat} {x : Kp} (h : fx L i = some (k, x)) : Maps.has (toD L) (kl i) = true := by
 rw [has_toD]
 obtain ⟨_, _, h2, _⟩ := fx_some h
 exact decide_eq_true (List.mem_map.2 ⟨x, fx_mem h, h2⟩)
theorem has_no {L : List Kp} {i : Int} (h : fx L i = none) : Maps.has (toD L) (kl i) = false := by
 rw [has_toD]; exact decide_eq_false (fx_none_iff.1 h)
theorem atKey_no {L : List Kp} {i : Int} (h : fx L i = none) (z : DataW Unit) : (toD L).atKey (kl i) z = z := atKey_of_not_has (has_no h) z
theorem atKey_yes {L : List Kp} {i : Int} {k : Nat} {x : Kp} (hn : (keys L).Nodup) (hw : Wf L) (h : fx L i = some (k, x)) (z : DataW Unit) : (toD L).atKey (kl i) z = x.dat := by
 have hf := fx_some h
 obtain ⟨hk, h1, h2, _⟩ := hf
 have e := toD_put_set hn hw h h2
 have e2 : L.set k x = L := by rw [<- h1]; exact List.set_getElem_self _
 rw [e2] at e
 rw [<- e]
 exact atKey_put_same ⟨_, rfl⟩ (show WideAt.IsKeyLit (kl i) from trivial) x.dat z
def MapL (w : World) (b : Nat) (L : List Kp) : Prop := w.ownsMap Tryz.prog 3 stE b L.length (toD L)
theorem MapL.of {w : World} {b n : Nat} {L : List Kp} (h : w.ownsMap Tryz.prog 3 stE b n (toD L)) : MapL w b L := by
 obtain ⟨es, clock, hb, F, _, hD⟩ := h
 refine ⟨es, clock, hb, F, ?_, hD⟩
 have := congrArg Maps.size hD
 simp only [toD, size_eq, length_sorted, List.length_map] at this
 simp at this
 omega
theorem MapL.lt {w : World} {b : Nat} {L : List Kp} (h : MapL w b L) : b < w.heap.size := World.ownsMap.lt h
theorem zeroSt (w : World) : (zeroValue 180).run Tryz.prog w = .ok (.agg #[.string ⟨#[]⟩, .bool false, .int .i64 0]) w := by kernel_rfl
theorem MapL.kept {w w' : World} {b : Nat} {L : List Kp} (h : MapL w b L) (hk : w'.heap[b]? = w.heap[b]?) : MapL w' b L := by
 obtain ⟨es, clock, hb, r⟩ := h
 exact ⟨es, clock, hk.trans hb, r⟩
end Go.Proofs.YthambopnmhkeeaaGreat.Ca
