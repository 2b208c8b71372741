/- What Drop leaves: its two closures, maps.DeleteFunc over the cache's map, slices.DeleteFunc over its row. -/
import Derived.Test.YthambopnmhkeeaaGreatZCGet
import Derived.Lib.SlMapFilter
import Derived.Shelf.SlicesE.DeleteFunc
import Derived.Deep.RegionHeld3
import Derived.Deep.RegionLaw
import Derived.Test.YthambopnmhkeeaaGreatZSSteady
import Derived.Test.YthambopnmhkeeaaGreatZSTold
import Derived.Test.YthambopnmhkeeaaGreatZCBase
import Derived.Defers
import Derived.Test.YthambopnmhkeeaaGreatZMSet
import Derived.Test.YthambopnmhkeeaaGreatZMMake
import Derived.Test.YthambopnmhkeeaaGreatZFBase
import Derived.Test.YthambopnmhkeeaaGreatZMGet
import Derived.Test.YthambopnmhkeeaaGreatZLHelp
import Derived.Lib.AppendStr

set_option maxRecDepth 100000
namespace Go.Proofs.YthambopnmhkeeaaGreat.Ca
open Go.RowKit Go.Maps
theorem below_grown {w w' : World} (h : Below w.heap.size w w') : w.grownBy w' none := ⟨h.os, h.tape, h.output, h.size, fun i hi _ => h.block i hi⟩
def pdD (_ : Lit) (d : DataW Unit) : Bool := match d with
 | .agg [_, .lit (.bool b), _] => b
 | _ => false
theorem drop2_any (i : Int) (s : ByteArray) (d : Bool) (m : Int) (w : World) : Calls Tryz.prog 188 #[.int .i64 i, .agg #[.string s, .bool d, .int .i64 m]] w fun e w' => e = .returned (.bool d) /\ Below w.heap.size w w' := by
 go_enter Tryz.func188, Tryz.ntmps188
 go_wp2
 go_ret
 exact ⟨rfl, (Below.refl _ _).alloc (Nat.le_refl _) _⟩
theorem delD_toD {L : List Kp} (hn : (keys L).Nodup) (hw : Wf L) : Lib.deleteFuncD pdD (toD L) = toD (L.filter fun x => !x.dirty) := by
 show DataW.map _ = DataW.map _
 have hs : (L.filter fun x => !x.dirty).Sublist L := List.filter_sublist
 have hnM : (keys (L.filter fun x => !x.dirty)).Nodup := hn.sublist (hs.map _)
 have hwM : Wf (L.filter fun x => !x.dirty) := fun x hx => hw x (hs.subset hx)
 have e1 : (L.map ent).filter (fun p => !pdD p.1 p.2) = (L.filter fun x => !x.dirty).map ent := by
  clear hn hw hs hnM hwM
  induction L with
  | nil => rfl
  | cons x r ih => simp only [List.map_cons, List.filter_cons, ih]; rw [show pdD (ent x).1 (ent x).2 = x.dirty from rfl]; cases x.dirty <;> simp
 congr 1
 refine ChangeMaps.eq_of_perm_sorted ?_ ((sorted_sorted klaw.one _ (keys_ent hw) (apart_ent hn)).filter _) (sorted_sorted klaw.one _ (keys_ent hwM) (apart_ent hnM))
 exact (((WideShapes.sorted_perm _).filter _).trans (by rw [e1])).trans (WideShapes.sorted_perm _).symm
structure St3 where
 s : ByteArray
 d : Bool
 m : Int
theorem wpList_next_st (w : World) {ops : Array Oper} {rest : List Oper} {o : Oper} {a : Act} {Q : Exit -> Act -> World -> Prop} (hg : o.guard = none) (it : Operand) (hop : o.op = Op.next it false) (b r n : Nat) (D : DataW Unit) (left : Lit -> Bool) (cnt : Nat)
  (hit : a.eval it = .pointer (some ⟨r, 0, none⟩)) (h : w.ranges Tryz.prog 3 stE b r n D left cnt)
  (hDone : Hid (∀ l, left l = false) -> wpList Tryz.prog ops Q rest (a.put o.dst (.tuple #[.bool false])) w)
  (hMore : ∀ (x : Int) (y : St3) (w' : World) (cnt' : Nat), Hid ((-9223372036854775808 <= x /\ x <= 9223372036854775807) /\ left (kl x) = true /\ (∀ zd, D.atKey (kl x) zd = .agg [.lit (.string y.s.data.toList), .lit (.bool y.d), .lit (.int .i64 y.m)]) /\ w'.ranges Tryz.prog 3 stE b r n D (fun z => left z && !z.sameKey (kl x)) cnt' /\ cnt' < cnt /\
   w.grownBy w' (some r) /\ w'.heap.size = w.heap.size) -> (Instr.entry (.pointer (some ⟨r, 0, none⟩))).run Tryz.prog w' = .ok (.tuple #[.int .i64 x, .agg #[.string y.s, .bool y.d, .int .i64 y.m]]) w' -> wpList Tryz.prog ops Q rest (a.put o.dst (.tuple #[.bool true, .int .i64 x, .agg #[.string y.s, .bool y.d, .int .i64 y.m]])) w') :
  wpList Tryz.prog ops Q (o :: rest) a w :=
 wpList_next_ranges w hg it hop 3 klaw stE (Value.int .i64) (fun c : ByteArray × Bool × Int => .agg #[.string c.1, .bool c.2.1, .int .i64 c.2.2]) (fun key l hk => by obtain ⟨x, rfl, _⟩ := Maps.keyOf_int_inv Tryz.underlying3 hk; exact ⟨x, rfl⟩) (fun v y hv => by obtain ⟨s, d, m, rfl, _⟩ := stE_inv hv; exact ⟨(s, d, m), rfl⟩) b r n D left cnt hit h
  (fun _ hl => hDone hl)
  (fun x c l y w' cnt' hkey hlk hv hat hrg hlt hgr hsz hen => by
   obtain ⟨s, d, m⟩ := c
   obtain ⟨x', ex, rfl, hwx⟩ := Maps.keyOf_int_inv Tryz.underlying3 hkey
   cases ex
   have hy : y = (.agg [.lit (.string s.data.toList), .lit (.bool d), .lit (.int .i64 m)], []) := by
    have := stE_mk s d m
    rw [this] at hv; cases hv; rfl
   subst hy
   refine hMore x ⟨s, d, m⟩ w' cnt' ⟨?_, hlk, hat, hrg, hlt, hgr, hsz⟩ hen
   simp only [Lit.wf, Bool.and_eq_true, decide_eq_true_eq] at hwx
   exact hwx)
section
variable {S : Nat -> Prop} {w w1 w2 : World} {p bm : Nat} {src ov ov' : Value} {C : CS}
set_option maxHeartbeats 4000000 in
theorem mdel_any {L : List Kp} (h : MapL w bm L) (hn : (keys L).Nodup) (hw : Wf L) :
  Calls Tryz.prog 187 #[.map (some bm), .func (.func 188) #[] #[]] w fun e w' => e = .returned (.tuple #[]) /\ MapL w' bm (L.filter fun x => !x.dirty) /\ Only (fun k => k = bm) w w' := by
 have hown : w.ownsMap Tryz.prog 3 stE bm L.length (toD L) := h
 have HDD := Lib.hid (delD_toD hn hw)
 obtain ⟨es0, hes, hap, hkeys⟩ := hown.entries klaw
 rw [hes] at hown HDD
 have HAP := Lib.hid hap; have HKY := Lib.hid hkeys
 have hst := Fk_start (pd := pdD) hkeys
 have HST := Lib.hid hst
 clear hes hap hkeys hst h hn hw
 go_enter Tryz.func187, Tryz.ntmps187
 go_wp2_with (first
  | (at_range; refine wpList_range_own _ rfl _ 174 rfl 3 180 klaw Tryz.underlying174 stE bm L.length _ rfl hown ?_; intro w0 hrg0 hg0 hs0)
  | go_in)
 go_frame
 have HRG0 := Lib.hid hrg0; have HG0 := Lib.hid hg0
 clear hrg0 hg0 hown
 go_loopw [8] (fun _ wr => ∃ (left : Lit -> Bool) (cnt : Nat), Hid (wr.ranges Tryz.prog 3 stE bm w.heap.size L.length (Fk pdD es0 left) left cnt) /\ Hid (w.grownBy wr (some bm)))
  (fun _ wr => wr.rangeLeft bm w.heap.size)
 case atStart => exact ⟨_, _, by rw [HST.out]; exact HRG0, HG0.out.but _⟩
 case round =>
  clear HRG0 HG0
  obtain ⟨left, cnt, HRG, HGW⟩ := hrel
  go_wp2_with (first
   | (at_next; refine wpList_next_st _ rfl _ rfl bm w.heap.size L.length _ _ _ rfl HRG.out ?_ ?_)
   | go_in)
  ·intro HL0
   go_wp2
   go_end0
   have := HRG.out.owns
   rw [Fk_end HL0.out, HDD.out] at this
   exact ⟨rfl, MapL.of this, only_grown HGW.out⟩
  ·rintro x ⟨s, d, m⟩ w1 cnt1 HX hen
   obtain ⟨hi, hlx, hat, hrg1, hlt, hg1, hs1⟩ := HX.out
   have hwl := HRG.out.lt
   obtain ⟨W, hW, l0, l1, l2, hb⟩ := st_new w1 s d m
   have HC := Lib.hid (drop2_any x s d m W)
   have HGW1 : Hid (w.grownBy W (some bm)) := (HGW.out.andThen hg1 (fun j hj => by cases hj; exact Or.inl (Nat.le_refl _))).andThen (below_grown hb) (fun j hj => by cases hj)
   have HRG2 := Lib.hid (hrg1.kept (below_grown hb) (by simp) (by simp))
   have HHAT := Lib.hid hat; have HLX := Lib.hid hlx; have HLT := Lib.hid hlt
   have HI := Lib.hid hi
   have HWE := Lib.hid hW
   clear hi hlx hat hrg1 hlt hg1 hs1 hb HX hW
   cases d
   ·go_wp2_with fail
    rw [HWE.out]
    refine HC.out.mono ?_
    rintro e w2 ⟨rfl, hb2⟩
    have HRG3 := Lib.hid (HRG2.out.kept (below_grown hb2) (by simp) (by simp))
    have HGW2 : Hid (w.grownBy w2 (some bm)) := HGW1.out.andThen (below_grown hb2) (fun j hj => by cases hj)
    clear hb2 HC
    go_wp2
    go_roundw
    case rel => exact ⟨_, cnt1, by rw [<- Fk_stays HAP.out (show WideAt.IsKeyLit (kl x) from trivial) HLX.out (d := .agg [.lit (.string s.data.toList), .lit (.bool false), .lit (.int .i64 m)]) rfl HHAT.out]; exact HRG3, HGW2⟩
    case measure => rw [HRG3.out.left_eq, HRG.out.left_eq]; exact HLT.out
   ·go_wp2_with fail
    rw [HWE.out]
    refine HC.out.mono ?_
    rintro e w2 ⟨rfl, hb2⟩
    have HRG3 := Lib.hid (HRG2.out.kept (below_grown hb2) (by simp) (by simp))
    have HGW2 : Hid (w.grownBy w2 (some bm)) := HGW1.out.andThen (below_grown hb2) (fun j hj => by cases hj)
    clear hb2 HC
    go_wp2_with (first
     | (at_delete; refine wpList_delete_ranges _ rfl _ _ 174 3 rfl 180 klaw Tryz.underlying174 stE bm w.heap.size L.length _ _ _ rfl HRG3.out _ _ rfl (keyI HI.out) ?_; intro w3 cnt3 hrg3 hle hturn; go_frame)
     | go_in)
    rw [strike_twice] at hrg3
    have HRG4 := Lib.hid hrg3
    have HGW3 : Hid (w.grownBy w3 (some bm)) := HGW2.out.andThen hturn.grown (fun j hj => by cases hj; exact Or.inr rfl)
    clear hrg3 hturn
    go_roundw
    case rel => exact ⟨_, cnt3, by rw [<- Fk_struck HAP.out (show WideAt.IsKeyLit (kl x) from trivial) HLX.out (d := .agg [.lit (.string s.data.toList), .lit (.bool true), .lit (.int .i64 m)]) rfl HHAT.out]; exact HRG4, HGW3⟩
    case measure => rw [HRG4.out.left_eq, HRG.out.left_eq]; have := HLT.out; omega
abbrev I64 := { x : Int // -9223372036854775808 <= x /\ x <= 9223372036854775807 }
instance : Inhabited I64 := ⟨⟨0, by decide⟩⟩
abbrev encS (x : I64) : Value := .int .i64 x.1
def dirtyOf (L : List Kp) (i : Int) : Bool := match fx L i with
 | some (_, y) => y.dirty
 | none => false
theorem dirtyOf_mem {L : List Kp} (hn : (keys L).Nodup) {x : Kp} (hx : x ∈ L) : dirtyOf L x.key = x.dirty := by
 obtain ⟨k, hk, rfl⟩ := List.getElem_of_mem hx
 unfold dirtyOf; rw [fx_of hn hk]
def keyS (L : List Kp) (hw : Wf L) : List I64 := L.attach.map fun x => ⟨x.1.key, hw x.1 x.2⟩
theorem keyS_val (L : List Kp) (hw : Wf L) : (keyS L hw).map (·.1) = keys L := by
 unfold keyS keys
 rw [List.map_map]
 exact List.attach_map_val (f := fun x : Kp => x.key)
theorem filter_keyS (L : List Kp) (hw : Wf L) (hn : (keys L).Nodup) : ((keyS L hw).filter fun x => !dirtyOf L x.1).map (·.1) = keys (L.filter fun x => !x.dirty) := by
 have e1 : ((keyS L hw).filter fun x => !dirtyOf L x.1).map (·.1) = (keys L).filter fun i => !dirtyOf L i := by
  rw [<- keyS_val L hw, List.filter_map]; rfl
 rw [e1]
 unfold keys
 rw [List.filter_map]
 congr 1
 refine List.filter_congr fun x hx => ?_
 show (!dirtyOf L x.key) = _
 rw [dirtyOf_mem hn hx]
theorem field_dirty (s : ByteArray) (d : Bool) (m : Int) (w : World) : (Instr.field 180 (.agg #[.string s, .bool d, .int .i64 m]) 1).run Tryz.prog w = .ok (.bool d) w := by kernel_rfl
set_option maxHeartbeats 400000 in
theorem drop1_any {L : List Kp} (i : Int) (hi : -9223372036854775808 <= i /\ i <= 9223372036854775807) (bx : Nat) (h : MapL w bm L) (hn : (keys L).Nodup) (hw : Wf L) (c0 : w.cell? ⟨bx, 0, none⟩ = some (.pointer (some ⟨p, 0, none⟩))) (c2 : w.cell? ⟨p, 2, none⟩ = some (.map (some bm))) :
  Calls Tryz.prog 186 #[.int .i64 i, .pointer (some ⟨bx, 0, none⟩)] w fun e w' => e = .returned (.bool (dirtyOf L i)) /\ w' = w := by
 have HM := Lib.hid h; have HN := Lib.hid hn; have HW := Lib.hid hw; have HI := Lib.hid hi
 have hfd := field_dirty
 cases hf : fx L i with
 | none =>
  have e : dirtyOf L i = false := by unfold dirtyOf; rw [hf]
  rw [e]
  have HF := Lib.hid hf
  clear h hn hw hi hf e
  go_enter Tryz.func186, Tryz.ntmps186
  go_wp2_with (at_lookup; refine wpList_has_no _ rfl _ _ rfl rfl rfl HM.out HI.out HF.out ?_)
  go_ret
  exact ⟨rfl, rfl⟩
 | some ky =>
  obtain ⟨k, yi, ys, yd, yn⟩ := ky
  have e : dirtyOf L i = yd := by unfold dirtyOf; rw [hf]
  rw [e]
  have HF := Lib.hid hf
  clear h hn hw hi hf e
  go_enter Tryz.func186, Tryz.ntmps186
  go_wp2_with (at_lookup; refine wpList_has_yes _ rfl _ _ rfl rfl rfl HM.out HN.out HW.out k _ HF.out ?_)
  go_ret
  exact ⟨rfl, rfl⟩
theorem enters_drop1 : ∀ args w, (callFunc 186 args).run Tryz.prog w = .ok (.enter 186 args) w := enters_of Tryz.func186 (by kernel_rfl) rfl
theorem sort_heap {α : Type} [Inhabited α] (enc : α -> Value) (w : World) (blk off n : Nat) (dk : Array α) (os : Array Obj) (k : Nat) (hk : k < w.heap.size) (hne : k ≠ blk) : (sortWorld enc w blk off n dk os).heap[k]? = w.heap[k]? := by
 unfold sortWorld
 rw [Sort.heap_grow_old _ _ (by simpa [Sort.putRow, Sort.mapBlock, Sort.ahead] using hk)]
 show ((Sort.ahead w n).heap.modify blk _)[k]? = w.heap[k]?
 rw [Array.getElem?_modify, if_neg (fun e => hne e.symm)]; rfl
theorem putRow_ownS {w : World} {g cap n : Nat} {xs : List Value} (h : w.ownsRow 0 3 1 (.slice (some ⟨g, 0, none⟩) n cap) n xs) (q : Nat) (d : List I64) (hd : d.length = n) (m : Nat) (hm : m <= n) :
  (Sort.putRow encS (Sort.ahead w q) g 0 d.toArray).ownsRow 0 3 1 (.slice (some ⟨g, 0, none⟩) m cap) m ((d.take m).map encS) /\ Only (fun k => k = g) w (Sort.putRow encS (Sort.ahead w q) g 0 d.toArray) := by
 have hlen : ((d.take m).map encS).length = m * 1 := by simp; omega
 rcases h.2 with ⟨hv, _⟩ | ⟨g', cap', cur, hv, hb, hg, hc1, hc2, hc3, hc4⟩
 ·cases hv
 ·obtain ⟨rfl, rfl⟩ : g = g' /\ cap = cap' := by simpa using hv
  refine ⟨⟨hlen, .inr ⟨g, cap, Sort.putCells encS 0 d.toArray cur, rfl, Nat.zero_le _, ?_, by omega, hc2, by simp [Sort.putCells, hc3], ?_⟩⟩, ?_⟩
  ·simp only [Sort.putRow, Sort.mapBlock, Array.getElem?_modify, if_pos]
   show (w.heap[g]?).map _ = _
   rw [hg]; rfl
  ·apply List.ext_getElem
   ·rw [hlen, List.length_take, Array.length_toList]
    simp [Sort.putCells, hc3]; omega
   ·intro i h1 h2
    have hi : i < m := by simp at h2; omega
    have hid : i < d.length := by omega
    simp only [List.getElem_take, Array.getElem_toList, List.getElem_map, Sort.putCells, Array.getElem_mapIdx]
    rw [if_pos ⟨Nat.zero_le _, by simp; omega⟩]
    simp [hid]
  ·refine ⟨rfl, rfl, rfl, by simp [Sort.putRow, Sort.mapBlock], fun k hk hne => ?_⟩
   show ((Sort.ahead w q).heap.modify g _)[k]? = w.heap[k]?
   rw [Array.getElem?_modify, if_neg (fun e => hne e.symm)]; rfl
set_option maxHeartbeats 400000 in
theorem delF_empty (a : Option Addr) (c : Nat) (fv : Value) (w : World) : Calls Tryz.prog 185 #[.slice a 0 c, fv] w fun e w' => e = .returned (.slice a 0 c) /\ w = w' := by
 have HI := Lib.hid (Tryz.slices_IndexFunc_empty (α := Int) a c fv w)
 go_enter Tryz.func185, Tryz.ntmps185
 go_wp2_with fail
 refine HI.out.mono ?_
 rintro e w1 ⟨rfl, hw⟩
 obtain rfl : w = w1 := hw.symm
 clear hw
 go_wp2
 go_ret
 exact ⟨rfl, rfl⟩
theorem delF_any (h : CB S w p bm src ov C) (bx : Nat) (c0 : w.cell? ⟨bx, 0, none⟩ = some (.pointer (some ⟨p, 0, none⟩))) (hbx : ¬ S bx) :
  Calls Tryz.prog 185 #[ov, .func (.func 186) #[] #[.pointer (some ⟨bx, 0, none⟩)]] w fun e w' => ∃ v', e = .returned v' /\ w'.ownsRow 0 3 1 v' (keys C.drop.L).length ((keys C.drop.L).map (Value.int .i64)) /\ (∀ k, v'.ownBlock = some k -> ov.ownBlock = some k) /\ Only (fun k => ov.ownBlock = some k) w w' := by
 have hl : C.L.length <= 1024 := by have := h.ok.len; have := h.ok.m1; omega
 by_cases h0 : 0 < C.L.length
 ·obtain ⟨g, cap, cur, rfl, _⟩ := row_form h.raw.hr (by rw [keys_len]; exact h0)
  have hr := h.raw.hr
  obtain ⟨hc1, hc2⟩ := row_caps hr
  have hgl := (hr.lt g rfl).2
  have hgp : p ≠ g := fun e => h.raw.rp (by rw [e]; rfl)
  have hgb : bm ≠ g := fun e => h.rb (by rw [e]; rfl)
  have hgx : bx ≠ g := fun e => hbx (by rw [e]; exact h.sr g rfl)
  have hbl : bx < w.heap.size := World.block_lt_of_cell? w _ c0
  have hks := keyS_val C.L h.ok.wf
  have hfil := filter_keyS C.L h.ok.wf h.ok.nodup
  generalize keyS C.L h.ok.wf = KS at hks hfil
  have hkl : KS.length = (keys C.L).length := by have := congrArg List.length hks; simpa using this
  have hH : Sort.Holds encS w g 0 KS.toArray := by
   intro j hj
   have hj' : j < KS.length := by simpa using hj
   refine ⟨?_, World.ownsRow.frozenAt hr _⟩
   rw [row_cells hr j (by omega)]
   have e1 : (keys C.L).getD j 0 = (KS[j]).1 := by
    have h2 : (KS.map (·.1))[j]? = some KS[j].1 := by rw [List.getElem?_map, List.getElem?_eq_getElem hj']; rfl
    rw [hks] at h2
    rw [List.getD_eq_getElem?_getD, h2]; rfl
   rw [e1]
   simp [hj']
  have gives : ∀ W : World, (∀ k, k < w.heap.size -> k ≠ g -> W.heap[k]? = w.heap[k]?) -> ∀ x : I64, FnGives Tryz.prog 186 #[.pointer (some ⟨bx, 0, none⟩)] #[encS x] (.bool (dirtyOf C.L x.1)) W := by
   intro W hW x
   refine (drop1_any (p := p) x.1 x.2 bx (h.map.kept (hW bm h.map.lt hgb)) h.ok.nodup h.ok.wf ((World.cell?_of_block (hW bx hbl hgx)).trans c0) ((World.cell?_of_block (hW p h.raw.lt hgp)).trans h.raw.c2)).mono fun e w' ⟨he, hw⟩ => ⟨he, 0, hw⟩
  have := Tryz.slices_DeleteFunc encS (fun _ => rfl) (fun x : I64 => dirtyOf C.L x.1) 186 #[.pointer (some ⟨bx, 0, none⟩)] enters_drop1 ⟨0, by decide⟩ (fun _ => by kernel_rfl) g 0 cap KS.toArray w
   (fun W x hb => gives W (fun k hk _ => hb.block k hk) x) (fun n os dk x _ => gives _ (fun k hk hne => sort_heap encS w g 0 n dk os k hk hne) x) hH (by simp; omega) (by simp; omega)
  have esz : KS.toArray.size = (keys C.L).length := by simpa using hkl
  rw [esz] at this
  refine this.mono fun e w' ⟨he, q, hw⟩ => ?_
  obtain ⟨F, hF⟩ : ∃ F, KS.toArray.toList.filter (fun x => !dirtyOf C.L x.1) = F := ⟨_, rfl⟩
  rw [hF] at he hw
  have hFv : F.map (·.1) = keys C.drop.L := by rw [<- hF]; exact hfil
  have hFl : F.length = (keys C.drop.L).length := by rw [<- hFv]; simp
  have hFn : F.length <= (keys C.L).length := by rw [<- hF, <- hkl]; exact List.length_filter_le _ _
  have hp := putRow_ownS hr q (F ++ List.replicate ((keys C.L).length - F.length) ⟨0, by decide⟩) (by simp; omega) F.length hFn
  rw [<- hw] at hp
  have e3 : ((F ++ List.replicate ((keys C.L).length - F.length) (⟨0, by decide⟩ : I64)).take F.length).map encS = (keys C.drop.L).map (Value.int .i64) := by
   rw [List.take_left, <- hFv, List.map_map]; rfl
  rw [e3] at hp
  refine ⟨_, he, ?_, fun k hk => hk, hp.2.mono (fun k _ e => by rw [e]; rfl)⟩
  rw [<- hFl]; exact hp.1
 ·have e0 : C.L = [] := List.eq_nil_of_length_eq_zero (by omega)
  have ed : C.drop.L = [] := by unfold CS.drop; rw [e0]; rfl
  obtain ⟨ao, cap, rfl⟩ := own_shape h.raw.hr
  have hr := h.raw.hr
  rw [ed]
  rw [e0] at hr ⊢
  refine (delF_empty ao cap _ w).mono fun e w' ⟨he, hw⟩ => ⟨_, he, ?_, fun k hk => hk, ?_⟩
  ·rw [<- hw]; exact hr
  ·rw [<- hw]; exact Only.refl _ _
theorem box_one (w : World) (p : Nat) : ∃ W, w.alloc (.cells #[.pointer (some ⟨p, 0, none⟩)] 94) = W /\ W.cell? ⟨w.heap.size, 0, none⟩ = some (.pointer (some ⟨p, 0, none⟩)) /\ Below w.heap.size w W /\ w.heap.size < W.heap.size :=
 ⟨_, rfl, by rw [World.cell?_alloc_mark]; rfl, (Below.refl _ _).alloc (Nat.le_refl _) _, by simp⟩
end
end Go.Proofs.YthambopnmhkeeaaGreat.Ca
/- What Drop leaves. -/
set_option maxRecDepth 100000
namespace Go.Proofs.YthambopnmhkeeaaGreat.Ca
open Go.RowKit
section
variable {S : Nat -> Prop} {w w' w1 w2 : World} {p bm : Nat} {src ov ov' : Value} {C : CS}
theorem CB.dropped (h : CB S w p bm src ov C) (hr : Raw w' p bm src ov' (C.most : Int) (C.misses : Int) (keys C.drop.L)) (hm : MapL w' bm C.drop.L) (hk : ∀ k, ov'.ownBlock = some k -> ov.ownBlock = some k) (hs : w.heap.size <= w'.heap.size) : CB S w' p bm src ov' C.drop :=
 ⟨h.ok.drop, hr, hm, h.bp, fun e => h.rb (hk _ e), h.sp, h.sb, fun k e => h.sr k (hk k e), fun k e => Nat.lt_of_lt_of_le (h.lt k e) hs⟩
theorem raw_set {O O' : List Int} {m mi : Int} (h : Raw w p bm src ov m mi O) (ho : Only (fun k => ov.ownBlock = some k) w w1) (hr : w1.ownsRow 0 3 1 ov' O'.length (O'.map (Value.int .i64))) (hk : ∀ k, ov'.ownBlock = some k -> ov.ownBlock = some k) : Raw (w1.setCell ⟨p, 3, none⟩ ov') p bm src ov' m mi O' := by
 have hp : w1.heap[p]? = some (.cells #[src, .int .i64 m, .map (some bm), ov, .int .i64 mi] 177 (0, 0)) := by rw [ho.block p h.lt h.rp]; exact h.hp
 refine ⟨by rw [heap_setCell_at hp]; rfl, ownsRow_setCell_other hr (fun e => h.rp (hk _ e)) _, fun e => h.rp (hk _ e)⟩
set_option maxHeartbeats 1000000 in
theorem drop_any (h : Cch S w p src C) :
  Calls Tryz.prog 150 #[.pointer (some ⟨p, 0, none⟩)] w fun e w' => e = .returned (.tuple #[]) /\ CLeaves S w w' p src C.drop := by
 obtain ⟨bm, ov, h⟩ := h
 have hlt := h.raw.lt
 obtain ⟨W, hW, l0, hb, hsz⟩ := box_one w p
 have HSZ := Lib.hid hsz
 have HBL := Lib.hid hb
 have HB := Lib.hid (h.below hb)
 have HN : Hid (¬ S w.heap.size) := fun hS => by have := h.lt _ hS; omega
 have c3 := HB.out.raw.c3
 have f3 := HB.out.raw.f 3
 have HD : Hid (∀ W' : World, Below W.heap.size W W' -> Calls Tryz.prog 185 #[ov, .func (.func 186) #[] #[.pointer (some ⟨w.heap.size, 0, none⟩)]] W' fun e w' => ∃ ao n cap, e = .returned (.slice ao n cap) /\ Hid (Raw (w'.setCell ⟨p, 3, none⟩ (.slice ao n cap)) p bm src (.slice ao n cap) (C.most : Int) (C.misses : Int) (keys C.drop.L)) /\ Hid (∀ k, (Value.slice ao n cap).ownBlock = some k -> ov.ownBlock = some k) /\ Hid (MapL (w'.setCell ⟨p, 3, none⟩ (.slice ao n cap)) bm C.L) /\ Hid (Only S W (w'.setCell ⟨p, 3, none⟩ (.slice ao n cap))) /\ Hid ((w'.setCell ⟨p, 3, none⟩ (.slice ao n cap)).cell? ⟨w.heap.size, 0, none⟩ = some (.pointer (some ⟨p, 0, none⟩))) /\ w'.cell? ⟨w.heap.size, 0, none⟩ = some (.pointer (some ⟨p, 0, none⟩)) /\ w'.cell? ⟨p, 3, none⟩ = some ov /\ w'.frozen? ⟨p, 3, none⟩ = false) := by
  intro W' hW'
  have hc := HB.out.below hW'
  have c0' := (hW'.cell (p := ⟨w.heap.size, 0, none⟩) HSZ.out).trans l0
  refine (delF_any hc w.heap.size c0' HN.out).mono fun e w' ⟨v', he, hr, hk, ho⟩ => ?_
  obtain ⟨ao, cap, rfl⟩ := own_shape hr
  refine ⟨ao, _, cap, he, raw_set hc.raw ho hr hk, hk, (hc.map.kept (ho.block bm hc.map.lt (fun e => hc.rb e))).kept (Below.heap_setCell _ _ _ _ hc.bp), ((Only.of_below _ hW' (Nat.le_refl _)).trans (ho.mono (fun j _ e => hc.sr j e)) (fun _ _ h => h)).setCell (fun _ => hc.sp) _, ?_, ?_, ?_, ?_⟩
  ·show World.cell? _ _ = _; rw [World.cell?_setCell_other _ _ _ _ (by intro e; have : p = w.heap.size := congrArg Addr.block e; exact HN.out (this ▸ hc.sp))]; exact (ho.cell (p := ⟨w.heap.size, 0, none⟩) (Nat.lt_of_lt_of_le HSZ.out hW'.size) (fun e => HN.out (hc.sr _ e))).trans c0'
  ·exact (ho.cell (p := ⟨w.heap.size, 0, none⟩) (Nat.lt_of_lt_of_le HSZ.out hW'.size) (fun e => HN.out (hc.sr _ e))).trans c0'
  ·exact (ho.cell (p := ⟨p, 3, none⟩) hc.raw.lt hc.raw.rp).trans hc.raw.c3
  ·exact (World.frozen?_of_block (ho.block p hc.raw.lt hc.raw.rp)).trans (hc.raw.f 3)
 have HSP := Lib.hid h.sp
 clear h hb hsz
 have HLT := Lib.hid hlt
 clear hlt
 go_enter Tryz.func150, Tryz.ntmps150
 have HMD : Hid (∀ W', MapL W' bm C.L -> Calls Tryz.prog 187 #[.map (some bm), .func (.func 188) #[] #[]] W' fun e w' => e = .returned (.tuple #[]) /\ Hid (MapL w' bm C.drop.L) /\ Hid (Only (fun k => k = bm) W' w')) := fun W' hm => mdel_any hm HB.out.ok.nodup HB.out.ok.wf
 have BR : Hid (Below W.heap.size W W) := Below.refl _ _
 go_wp2
 clear hW
 go_region_with (go_at_call 185; refine (HD.out _ (by first | exact BR.out | exact BR.out.drew)).mono ?_; rintro e w1 ⟨ao, n, cap, rfl, HR, HK, HM, HO, HX, b1, k3, g3⟩)
 all_goals
  clear b1 k3 g3 HD
  generalize w1.setCell ⟨p, 3, none⟩ (.slice ao n cap) = w2 at *
  have b2 := HX.out
  have c2 := HR.out.c2
  clear l0 c3 f3
  have HMM := Lib.hid (HMD.out w2 HM.out)
  go_wp2_with fail
  refine HMM.out.mono ?_
  rintro e w3 ⟨rfl, HM3, HO3⟩
  go_wp2
  go_end0
  refine ⟨rfl, (CB.leaves (bm := bm) (ov := .slice ao n cap) (h := ?_) (ho := (Only.of_below _ HBL.out (Nat.le_refl _)).trans (HO.out.trans (HO3.out.mono (fun j _ e => by rw [e]; exact HB.out.sb)) (fun _ _ h => h)) (fun _ _ h => h)))⟩
  exact HB.out.dropped (HR.out.kept HO3.out (fun e => HB.out.bp e.symm) (fun k hk e => HB.out.rb (e ▸ HK.out k hk))) HM3.out HK.out (Nat.le_trans HO.out.size HO3.out.size)
end
end Go.Proofs.YthambopnmhkeeaaGreat.Ca
/- A store in memory, and what its smallest calls answer: firstData, First, check, isData, Begin, undo. -/
set_option maxRecDepth 100000
namespace Go.Proofs.YthambopnmhkeeaaGreat
open Go.RowKit
open Fr (SlW)
structure Sm (S SH SC : Nat -> Prop) (w : World) (s h c p n N : Nat) (H : Int -> ByteArray) (bits keep : ByteArray) (op : Bool) (C : Ca.CS) : Prop where
 hs : w.heap[s]? = some (.cells #[.pointer (some ⟨h, 0, none⟩), .pointer (some ⟨c, 0, none⟩), .string bits, .string keep, .bool op] 96 (0, 0))
 home : Home SH w h p n N H
 cch : Ca.Cch SC w c (.iface 93 (.pointer (some ⟨h, 0, none⟩))) C
 ss : S s
 hS : ∀ k, SH k -> S k
 cS : ∀ k, SC k -> S k
 sh : ¬ SH s
 sc : ¬ SC s
 dis : ∀ k, SH k -> ¬ SC k
 slt : ∀ k, S k -> k < w.heap.size
def St (S : Nat -> Prop) (w : World) (s p : Nat) (P : TS) (N mi : Nat) : Prop :=
 ∃ SH SC h c C, Sm S SH SC w s h c p P.n N P.H (txt P.bits) (txt P.keep) P.op C /\ Ca.Kc C P.t P.d /\ P.Ok /\ 64 <= C.most /\ C.misses <= mi
def StL (S : Nat -> Prop) (w w' : World) (s p : Nat) (P : TS) (N mi : Nat) : Prop := ∃ S' : Nat -> Prop, (∀ k, S' k -> S k \/ w.heap.size <= k) /\ St S' w' s p P N mi /\ Only S w w'
section
variable {S SH SC S1 T : Nat -> Prop} {w w1 w2 w' : World} {s h c p n N N' mi mi' : Nat} {H : Int -> ByteArray} {bits keep : ByteArray} {op : Bool} {C C' : Ca.CS} {P P' : TS}
theorem Sm.kept (m : Sm S SH SC w s h c p n N H bits keep op C) (ho : Only T w w') (hT : ∀ k, S k -> ¬ T k) : Sm S SH SC w' s h c p n N H bits keep op C :=
 ⟨by rw [ho.block s (m.slt s m.ss) (hT s m.ss)]; exact m.hs, m.home.kept ho (fun k hk => hT k (m.hS k hk)), m.cch.kept ho (fun k hk => hT k (m.cS k hk)), m.ss, m.hS, m.cS, m.sh, m.sc, m.dis, fun k hk => Nat.lt_of_lt_of_le (m.slt k hk) ho.size⟩
theorem Sm.below (m : Sm S SH SC w s h c p n N H bits keep op C) (hb : Below w.heap.size w w') : Sm S SH SC w' s h c p n N H bits keep op C := m.kept (Only.of_below (fun _ => False) hb (Nat.le_refl _)) (fun _ _ => id)
theorem Sm.c0 (m : Sm S SH SC w s h c p n N H bits keep op C) : w.cell? ⟨s, 0, none⟩ = some (.pointer (some ⟨h, 0, none⟩)) := by rw [cell_at m.hs]; rfl
theorem Sm.c1 (m : Sm S SH SC w s h c p n N H bits keep op C) : w.cell? ⟨s, 1, none⟩ = some (.pointer (some ⟨c, 0, none⟩)) := by rw [cell_at m.hs]; rfl
theorem Sm.c2 (m : Sm S SH SC w s h c p n N H bits keep op C) : w.cell? ⟨s, 2, none⟩ = some (.string bits) := by rw [cell_at m.hs]; rfl
theorem Sm.c3 (m : Sm S SH SC w s h c p n N H bits keep op C) : w.cell? ⟨s, 3, none⟩ = some (.string keep) := by rw [cell_at m.hs]; rfl
theorem Sm.c4 (m : Sm S SH SC w s h c p n N H bits keep op C) : w.cell? ⟨s, 4, none⟩ = some (.bool op) := by rw [cell_at m.hs]; rfl
theorem Sm.f (m : Sm S SH SC w s h c p n N H bits keep op C) (i : Nat) : w.frozen? ⟨s, i, none⟩ = false := free_at m.hs i
theorem Sm.lt (m : Sm S SH SC w s h c p n N H bits keep op C) : s < w.heap.size := m.slt s m.ss
theorem Sm.head (m : Sm S SH SC w s h c p n N H bits keep op C) : ∃ j D SD, w.cell? ⟨h, 0, none⟩ = some (.pointer (some ⟨j, 0, none⟩)) /\ w.cell? ⟨j, 0, none⟩ = some (.pointer (some ⟨p, 0, none⟩)) /\ Stands SD w p D /\ D.dead = false /\ D.disk.length = n /\ n <= 4096 /\ h < w.heap.size /\ j < w.heap.size /\ (∀ k, SD k -> S k) := by
 obtain ⟨SD, j, sv, L, J, D, F, G, g⟩ := m.home
 exact ⟨j, D, SD, g.c0, g.jr.c0, g.dev, g.live, g.len, g.n4, g.hlt, g.jr.lt, fun k hk => m.hS k (g.sd k hk)⟩
theorem Sm.put (m : Sm S SH SC w s h c p n N H bits keep op C) (i : Nat) (v : Value) {bits' keep' : ByteArray} {op' : Bool}
  (hc : (#[.pointer (some ⟨h, 0, none⟩), .pointer (some ⟨c, 0, none⟩), .string bits, .string keep, .bool op] : Array Value).setIfInBounds i v = #[.pointer (some ⟨h, 0, none⟩), .pointer (some ⟨c, 0, none⟩), .string bits', .string keep', .bool op']) :
  Sm S SH SC (w.setCell ⟨s, i, none⟩ v) s h c p n N H bits' keep' op' C /\ Only S w (w.setCell ⟨s, i, none⟩ v) := by
 have ho : Only (fun k => k = s) w (w.setCell ⟨s, i, none⟩ v) := (Only.refl (fun k => k = s) w).setCell (p := ⟨s, i, none⟩) (fun _ => rfl) v
 refine ⟨⟨by rw [heap_setCell_at m.hs, hc], m.home.kept ho (fun k hk e => m.sh (e ▸ hk)), m.cch.kept ho (fun k hk e => m.sc (e ▸ hk)), m.ss, m.hS, m.cS, m.sh, m.sc, m.dis, fun k hk => Nat.lt_of_lt_of_le (m.slt k hk) ho.size⟩, ho.mono (fun k _ e => e ▸ m.ss)⟩
theorem Sm.cached (m : Sm S SH SC w s h c p n N H bits keep op C) (hl : Ca.CLeaves SC w w' c (.iface 93 (.pointer (some ⟨h, 0, none⟩))) C') :
  ∃ S' SC', (∀ k, S' k -> S k \/ w.heap.size <= k) /\ Sm S' SH SC' w' s h c p n N H bits keep op C' /\ Only S w w' := by
 obtain ⟨SC', h1, h2, h3⟩ := hl
 refine ⟨fun k => S k \/ SC' k, SC', fun k hk => ?_, ⟨?_, m.home.kept h3 (fun k hk hc => m.dis k hk hc), h2, .inl m.ss, fun k hk => .inl (m.hS k hk), fun k hk => .inr hk, m.sh, fun hk => ?_, fun k hk hc => ?_, fun k hk => ?_⟩, h3.mono (fun k _ hk => m.cS k hk)⟩
 ·rcases hk with hk | hk
  ·exact .inl hk
  ·rcases h1 k hk with h | h
   ·exact .inl (m.cS k h)
   ·exact .inr h
 ·rw [h3.block s m.lt m.sc]; exact m.hs
 ·rcases h1 s hk with h | h
  ·exact m.sc h
  ·have := m.lt; omega
 ·rcases h1 k hc with h | h
  ·exact m.dis k hk h
  ·have := m.home.lt k hk; omega
 ·rcases hk with hk | hk
  ·exact Nat.lt_of_lt_of_le (m.slt k hk) h3.size
  ·exact h2.lt k hk
theorem St.kept (m : St S w s p P N mi) (ho : Only T w w') (hT : ∀ k, S k -> ¬ T k) : St S w' s p P N mi := by
 obtain ⟨SH, SC, h, c, C, a, b⟩ := m; exact ⟨SH, SC, h, c, C, a.kept ho hT, b⟩
theorem St.below (m : St S w s p P N mi) (hb : Below w.heap.size w w') : St S w' s p P N mi := m.kept (Only.of_below (fun _ => False) hb (Nat.le_refl _)) (fun _ _ => id)
theorem St.ok (m : St S w s p P N mi) : P.Ok := by obtain ⟨SH, SC, h, c, C, a, b⟩ := m; exact b.2.1
theorem St.slt (m : St S w s p P N mi) : ∀ k, S k -> k < w.heap.size := by obtain ⟨SH, SC, h, c, C, a, b⟩ := m; exact a.slt
theorem St.more (m : St S w s p P N mi) (hm : mi <= mi') : St S w s p P N mi' := by
 obtain ⟨SH, SC, h, c, C, a, b1, b2, b3, b4⟩ := m; exact ⟨SH, SC, h, c, C, a, b1, b2, b3, Nat.le_trans b4 hm⟩
theorem StL.refl (m : St S w s p P N mi) : StL S w w s p P N mi := ⟨S, fun _ => .inl, m, Only.refl _ _⟩
theorem StL.of_below (m : St S w s p P N mi) (hb : Below w.heap.size w w') : StL S w w' s p P N mi := ⟨S, fun _ => .inl, m.below hb, Only.of_below _ hb (Nat.le_refl _)⟩
theorem StL.next (hS1 : ∀ k, S1 k -> S k \/ w.heap.size <= k) (ho : Only S w w1) (h : StL S1 w1 w2 s p P N mi) : StL S w w2 s p P N mi := by
 obtain ⟨S2, hS2, hs, ho2⟩ := h
 refine ⟨S2, fun k hk => ?_, hs, ho.trans ho2 (fun i hi h1 => ?_)⟩
 ·rcases hS2 k hk with h | h
  ·exact hS1 k h
  ·exact .inr (Nat.le_trans ho.size h)
 ·rcases hS1 i h1 with h | h
  ·exact h
  ·omega
theorem StL.below (h : StL S w w1 s p P N mi) (hb : Below w1.heap.size w1 w2) : StL S w w2 s p P N mi := by
 obtain ⟨S2, hS2, hs, ho2⟩ := h
 exact ⟨S2, hS2, hs.below hb, ho2.trans (Only.of_below (fun _ => False) hb (Nat.le_refl _)) (fun _ _ f => f.elim)⟩
theorem StL.from (hb : Below w.heap.size w w1) (h : StL S w1 w2 s p P N mi) : StL S w w2 s p P N mi := StL.next (fun _ h => .inl h) (Only.of_below S hb (Nat.le_refl _)) h
theorem StL.more (m : StL S w w' s p P N mi) (hm : mi <= mi') : StL S w w' s p P N mi' := by obtain ⟨S', a, b, c⟩ := m; exact ⟨S', a, b.more hm, c⟩
set_option maxHeartbeats 400000 in
theorem firstData_any (n : Nat) (hn : n <= 4096) (w : World) : Calls Tryz.prog 89 #[.int .i64 (n : Int)] w fun e w' => e = .returned (.int .i64 (firstD n : Nat)) /\ w = w' := by
 have e : ((firstD n : Nat) : Int) = 63 + ((n : Int) + 2048 - 1) / 2048 := by unfold firstD nbM; omega
 rw [e]
 clear e
 go_enter Tryz.func89, Tryz.ntmps89
 go_wp2
 go_ret
 exact ⟨rfl, rfl⟩
set_option maxHeartbeats 400000 in
theorem sfirst_any (m : Sm S SH SC w s h c p n N H bits keep op C) : Calls Tryz.prog 32 #[.pointer (some ⟨s, 0, none⟩)] w fun e w' => e = .returned (.int .i64 (firstD n : Nat)) /\ w = w' := by
 obtain ⟨j, D, SD, ch, cj, hd, hl, hn, h4, _⟩ := m.head
 have c0 := m.c0
 have CB := Lib.hid (blocks_any hd)
 rw [hn] at CB
 have CF := Lib.hid (firstData_any n h4 w)
 clear hd hl hn m
 generalize firstD n = q at *
 go_enter Tryz.func32, Tryz.ntmps32
 go_wp2_with fail
 refine CB.out.mono ?_
 rintro e w1 ⟨rfl, rfl⟩
 go_wp2_with fail
 refine CF.out.mono ?_
 rintro e w1 ⟨rfl, rfl⟩
 go_wp2
 go_ret
 exact ⟨rfl, rfl⟩
set_option maxHeartbeats 400000 in
theorem scheck_any (m : Sm S SH SC w s h c p n N H bits keep op C) : Calls Tryz.prog 93 #[.pointer (some ⟨s, 0, none⟩)] w fun e w' => e = .returned (.int .i64 (if op = true then 0 else 15)) /\ w = w' := by
 obtain ⟨j, D, SD, ch, cj, hd, hl, hn, h4, _⟩ := m.head
 have c0 := m.c0; have c4 := m.c4
 have CB := Lib.hid (dead_any hd)
 rw [hl] at CB
 clear hd hl hn m
 cases op
 ·go_enter Tryz.func93, Tryz.ntmps93
  go_wp2_with fail
  refine CB.out.mono ?_
  rintro e w1 ⟨rfl, rfl⟩
  go_wp2
  go_ret
  exact ⟨rfl, rfl⟩
 ·go_enter Tryz.func93, Tryz.ntmps93
  go_wp2_with fail
  refine CB.out.mono ?_
  rintro e w1 ⟨rfl, rfl⟩
  go_wp2
  go_ret
  exact ⟨rfl, rfl⟩
set_option maxHeartbeats 1000000 in
theorem sisData_any (m : Sm S SH SC w s h c p n N H bits keep op C) (i k : Int) (hi : -9223372036854775808 <= i /\ i <= 9223372036854775807) :
  Calls Tryz.prog 96 #[.pointer (some ⟨s, 0, none⟩), .int .i64 i, .int .i64 k] w fun e w' => e = .returned (.bool (decide ((firstD n : Int) <= i) && decide (k <= (n : Int) - i))) /\ w = w' := by
 obtain ⟨j, D, SD, ch, cj, hd, hl, hn, h4, _⟩ := m.head
 have c0 := m.c0
 have CB := Lib.hid (blocks_any hd)
 rw [hn] at CB
 have CF := Lib.hid (sfirst_any m)
 clear hd hl hn m
 have hf : 63 <= firstD n := by unfold firstD; omega
 generalize firstD n = q at *
 by_cases h1 : (q : Int) <= i
 ·have hw : IntKind.i64.wrap ((n : Int) - i) = (n : Int) - i := IntWalk.i64_in _ (by omega)
  have e1 : decide ((q : Int) <= i) = true := decide_eq_true h1
  rw [e1, Bool.true_and]
  go_enter Tryz.func96, Tryz.ntmps96
  go_wp2_with fail
  refine CF.out.mono ?_
  rintro e w1 ⟨rfl, rfl⟩
  go_wp2_with fail
  refine CB.out.mono ?_
  rintro e w1 ⟨rfl, rfl⟩
  go_wp2
  go_ret
  exact ⟨rfl, rfl⟩
 ·have e1 : decide ((q : Int) <= i) = false := decide_eq_false h1
  rw [e1, Bool.false_and]
  go_enter Tryz.func96, Tryz.ntmps96
  go_wp2_with fail
  refine CF.out.mono ?_
  rintro e w1 ⟨rfl, rfl⟩
  go_wp2
  go_ret
  exact ⟨rfl, rfl⟩
end
end Go.Proofs.YthambopnmhkeeaaGreat
/- What label, emptyMap, rightMap, mapBlocks and turnedBlocks answer. -/
set_option maxRecDepth 100000
namespace Go.Proofs.YthambopnmhkeeaaGreat
open Go.RowKit
open Fr (SlW OwnW flatI two_cells two_one own_pushW)
theorem txt_ext (l : List UInt8) (a b : Nat) : (txt l).extract a b = txt ((l.take b).drop a) := Fr.bs_ext l a b
theorem txt_blk (l : List UInt8) (k : Nat) : (txt l).extract (256 * k) (256 * k + 256) = txt (blkM l k) := by
 rw [txt_ext]
 unfold blkM
 congr 1
 rw [List.take_drop]
theorem txt_inj {l m : List UInt8} (h : txt l = txt m) : l = m := congrArg (fun b : ByteArray => b.data.toList) h
theorem str_dec (l m : List UInt8) : ((txt l).toList == (txt m).toList) = decide (l = m) := by
 by_cases h : l = m
 ·rw [Fr.str_same (by rw [h]), decide_eq_true h]
 ·rw [Fr.str_diff (fun e => h (txt_inj e)), decide_eq_false h]
def mapL (m : Nat) (l : List UInt8) : List Wr := (List.range m).map fun k => (((63 + k : Nat) : Int), txt (blkM l k))
theorem mapL_succ (m : Nat) (l : List UInt8) : mapL (m + 1) l = mapL m l ++ [(((63 + m : Nat) : Int), txt (blkM l m))] := by unfold mapL; rw [List.range_succ, List.map_append]; rfl
theorem mapL_len (m : Nat) (l : List UInt8) : (mapL m l).length = m := by simp [mapL]
theorem mapL_get (m : Nat) (l : List UInt8) (k : Nat) (h : k < (mapL m l).length) : (mapL m l)[k] = (((63 + k : Nat) : Int), txt (blkM l k)) := by simp [mapL]
set_option maxHeartbeats 1000000 in
theorem mapBlocks_any (l : List UInt8) (m : Nat) (hl : l.length = 256 * m) (hm : m <= 2) (w : World) :
  Calls Tryz.prog 71 #[.string (txt l)] w fun e w' => ∃ v, e = .returned v /\ Hid (OwnW w.heap.size w' v (mapL m l)) /\ Hid (Below w.heap.size w w') := by
 obtain ⟨i0, hi, hz0, hz1, hz2⟩ := info_parts Tryz.infoW
 have HZ2 := Lib.hid hz2; clear hz2
 have hsz : (txt l).size = 256 * m := by rw [txt_size, hl]
 have HX : Hid (∀ k, k < m -> (txt l).extract (256 * k) (256 * k + 256) = txt (blkM l k)) := fun k _ => txt_blk l k
 have HSu : Hid (∀ k, mapL (k + 1) l = mapL k l ++ [(((63 + k : Nat) : Int), txt (blkM l k))]) := fun k => mapL_succ k l
 have HLn : Hid (∀ k, (mapL k l).length = k) := fun k => mapL_len k l
 have HN0 : Hid (mapL 0 l = []) := rfl
 clear hl
 generalize txt l = T at *
 have h1 : T.size <= 256 * m := by omega
 have h2 : 256 * m <= T.size := by omega
 have HS := Lib.hid hsz
 clear hsz
 go_enter Tryz.func71, Tryz.ntmps71
 go_wp2_with fail
 go_loopw [3, 4] (fun wv i wr => ∃ k : Nat, k <= m /\ i = .int .i64 ((256 * k : Nat) : Int) /\ Hid (OwnW w.heap.size wr wv (mapL k l)) /\ Hid (Below w.heap.size w wr)) (fun _ i _ => 256 * m + 256 - (intOf i).toNat)
 case atStart => exact ⟨0, Nat.zero_le _, rfl, by show OwnW _ _ _ _; rw [HN0.out]; exact OwnW.nil _ _, Below.refl _ _⟩
 case round =>
  obtain ⟨k, hk, rfl, HO, HB⟩ := hrel
  have hbr := HB.out.size
  by_cases hlt : k < m
  ·have hlen := HLn.out k
   have HSN := Lib.hid (HSu.out k)
   have HXX := Lib.hid (HX.out k hlt)
   obtain ⟨M, hM⟩ : ∃ M, mapL k l = M := ⟨_, rfl⟩
   rw [hM] at HO HSN hlen
   clear hM
   have hMl : M.length <= 2 := by omega
   obtain ⟨ao2, c2, hv, _⟩ := HO.out.sl
   subst hv
   have HLN := Lib.hid hlen
   have hcap : M.length <= c2 := by obtain ⟨_, _, h, _⟩ := HO.out.sl; omega
   have i1 : 256 * (k : Int) < (T.size : Int) := by omega
   have i2 : 256 * (k : Int) + 256 <= (T.size : Int) := by omega
   have i3 : 256 * k + 256 <= T.size := by omega
   have HV : Hid (∀ w3 v1, w3.ownsRow w.heap.size 63 2 v1 (M.length + 1) (flatI M ++ [.int .i64 (63 + (k : Int)), .string (T.extract (256 * k) (256 * k + 256))]) -> OwnW w.heap.size w3 v1 (mapL (k + 1) l)) := fun w3 v1 hown => by
    rw [HSN.out, <- HXX.out]
    have e : (((63 + k : Nat) : Int)) = 63 + (k : Int) := by omega
    rw [e]
    exact own_pushW hown
   have HOk : Hid (OwnW w.heap.size wr (.slice ao2 M.length c2) M) := HO.out
   rw [hlen] at hMl HOk HV
   have HOr : Hid (wr.ownsRow w.heap.size 63 2 (.slice ao2 k c2) k (flatI M)) := by
    have := HO.out; unfold OwnW at this; rw [hlen] at this; exact this
   rw [hlen]
   clear hlen HXX HSN HOk HO
   go_wp2_with (at_builtin; go_loud (refine wpList_append_own _ rfl _ _ 49 rfl w.heap.size 63 i0 _ 2 24 Tryz.underlying49 hi hz0 hz1 HZ2.out rfl (by decide) _ _ _ rfl (Fr.own_below HOr.out ((Below.refl _ _).alloc (Nat.le_refl _) _)) _ 1 1 [.int .i64 (63 + (k : Int)), .string (T.extract (256 * k) (256 * k + 256))] rfl rfl (two_cells rfl) two_one ?c3 ?c4 ?c5 ?_))
   case c3 => unfold maxLen; omega
   case c4 => omega
   case c5 => simp; omega
   intro v1 w3 hown hgrow _
   have HO3 := Lib.hid (HV.out _ _ hown)
   have HB3 : Hid (Below w.heap.size w w3) := (HB.out.alloc hbr _).grown hgrow (by simp; omega) (fun q hq => (HOr.out.lt q hq).1)
   clear hown hgrow HOr HV
   go_wp2
   go_roundw
   case rel => exact ⟨k + 1, by omega, by go_num, HO3.out, HB3.out⟩
   case measure => simp [intOf]; omega
  ·have hkm : k = m := by omega
   subst hkm
   go_wp2
   go_ret
   exact ⟨_, rfl, HO.out, HB.out⟩
set_option maxHeartbeats 1000000 in
theorem label_any (n : Nat) (hn : n <= 4096) (w : World) : Calls Tryz.prog 75 #[.int .i64 (n : Int)] w fun e w' => e = .returned (.string (labelB n)) /\ Hid (Below w.heap.size w w') := by
 obtain ⟨T, hT⟩ : ∃ T, Fr.bs (Fr.fixL n) = T := ⟨_, rfl⟩
 have hs : T.size = 4 := by rw [<- hT]; rfl
 have CF : Hid (∀ W, Calls Tryz.prog 135 #[.int .u32 (n : Int)] W fun e w' => e = .returned (.string T) /\ Below W.heap.size W w') := fun W => by rw [<- hT]; exact Fr.fixed_any n W (by omega)
 have CN : Hid (∀ W, Calls Tryz.prog 66 #[.string ⟨#[0]⟩, .int .i64 (256 - (4 + (T.size : Int)))] W fun e w' => e = .returned (.string (Fr.bs (List.replicate 248 0))) /\ Below W.heap.size W w') := fun W => Bm.noughts_any _ 248 W (by omega) (by omega) (by omega)
 have HE : Hid (labelB n = (⟨#[67, 68, 88, 66]⟩ ++ T) ++ Fr.bs (List.replicate 248 0)) := by
  show _ = _
  unfold labelB labelL
  rw [<- hT, show (⟨#[67, 68, 88, 66]⟩ : ByteArray) = Fr.bs [67, 68, 88, 66] from rfl, Fr.bs_append, Fr.bs_append, List.append_assoc]
 have hz : (Fr.bs (List.replicate 248 0)).size = 248 := by rw [Fr.bs_len, List.length_replicate]
 clear hT
 generalize Fr.bs (List.replicate 248 0) = Z at *
 have h1 : T.size <= 4 := by omega
 have h2 : 4 <= T.size := by omega
 have h3 : Z.size <= 248 := by omega
 clear hs hz
 have hc : IntKind.u32.wrap (n : Int) = (n : Int) := by simp [IntKind.wrap, IntKind.bits, IntKind.signed]; omega
 go_enter Tryz.func75, Tryz.ntmps75
 go_wp2_with fail
 refine (CF.out _).mono ?_
 rintro e w1 ⟨rfl, hb1⟩
 have HB1 := Lib.hid hb1; clear hb1
 go_wp2_with fail
 refine (CN.out _).mono ?_
 rintro e w2 ⟨rfl, hb2⟩
 have HB2 := Lib.hid (HB1.out.trans (hb2.mono HB1.out.size)); clear hb2
 go_wp2
 go_ret
 exact ⟨by rw [HE.out]; rfl, HB2.out⟩
set_option maxHeartbeats 1000000 in
theorem emptyMap_any (n : Nat) (h1 : 128 <= n) (hn : n <= 4096) (w : World) : Calls Tryz.prog 72 #[.int .i64 (n : Int)] w fun e w' => e = .returned (.string (txt (TS.emptyM n))) /\ Hid (Below w.heap.size w w') := by
 have CF := Lib.hid (firstData_any n hn w)
 have hq : firstD n = 63 + nbM n := rfl
 have hnb : nbM n = (n + 2047) / 2048 := rfl
 have hms : Bm.makeS ((((firstD n : Nat) : Int) - 63) * 2048) = txt (List.replicate (256 * nbM n) 0) := by
  unfold Bm.makeS
  rw [if_pos (by omega), show (((((firstD n : Nat) : Int) - 63) * 2048).toNat + 7) / 8 = 256 * nbM n by omega]
  rfl
 have hst : Bm.setV (txt (List.replicate (256 * nbM n) 0)).data.toList ((0 : Nat) : Int) ((firstD n : Nat) : Int) true = .tuple #[.string (txt (TS.emptyM n)), .bool true] := by
  rw [Bm.setV_yes _ _ _ _ (by rw [txt_data, List.length_replicate]; omega)]
  rfl
 have CM : Hid (∀ W, Calls Tryz.prog 127 #[.int .i64 ((((firstD n : Nat) : Int) - 63) * 2048)] W fun e w' => e = .returned (.string (txt (List.replicate (256 * nbM n) 0))) /\ Below W.heap.size W w') := fun W => by rw [<- hms]; exact Bm.make_any _ W (by omega)
 have CS : Hid (∀ W, Calls Tryz.prog 63 #[.string (txt (List.replicate (256 * nbM n) 0)), .int .i64 0, .int .i64 ((firstD n : Nat) : Int), .bool true] W fun e w' => e = .returned (.tuple #[.string (txt (TS.emptyM n)), .bool true]) /\ Below W.heap.size W w') := fun W => by
  rw [<- hst]
  exact Bm.set_any (txt (List.replicate (256 * nbM n) 0)) 0 (firstD n) true W (by rw [txt_size, List.length_replicate]; omega) (by omega) (by omega)
 have hq1 : 63 <= firstD n := by omega
 have hq2 : firstD n <= 65 := by omega
 clear hms hst hq hnb
 generalize firstD n = q at *
 generalize txt (List.replicate (256 * nbM n) 0) = Z at *
 generalize txt (TS.emptyM n) = E at *
 go_enter Tryz.func72, Tryz.ntmps72
 go_wp2_with fail
 refine CF.out.mono ?_
 rintro e w1 ⟨rfl, rfl⟩
 go_wp2_with fail
 refine (CM.out _).mono ?_
 rintro e w1 ⟨rfl, hb1⟩
 have HB1 := Lib.hid hb1; clear hb1
 go_wp2_with fail
 refine (CS.out _).mono ?_
 rintro e w2 ⟨rfl, hb2⟩
 have HB2 := Lib.hid (HB1.out.trans (hb2.mono HB1.out.size)); clear hb2
 go_wp2
 go_ret
 exact ⟨rfl, HB2.out⟩
def rightB (n : Nat) (l : List UInt8) : Bool := decide (Bm.stL l (firstD n) false (n - firstD n) = TS.emptyM n)
set_option maxHeartbeats 1000000 in
theorem rightMap_any (n : Nat) (h1 : 128 <= n) (hn : n <= 4096) (l : List UInt8) (hl : l.length = 256 * nbM n) (w : World) : Calls Tryz.prog 149 #[.string (txt l), .int .i64 (n : Int)] w fun e w' => e = .returned (.bool (rightB n l)) /\ Hid (Below w.heap.size w w') := by
 have CF := Lib.hid (firstData_any n hn w)
 have hq : firstD n = 63 + nbM n := rfl
 have hnb : nbM n = (n + 2047) / 2048 := rfl
 have hst : Bm.setV (txt l).data.toList ((firstD n : Nat) : Int) ((n - firstD n : Nat) : Int) false = .tuple #[.string (txt (Bm.stL l (firstD n) false (n - firstD n))), .bool true] := by
  rw [Bm.setV_yes _ _ _ _ (by rw [txt_data]; omega)]
  rfl
 have hsub : (((n - firstD n : Nat)) : Int) = (n : Int) - ((firstD n : Nat) : Int) := by omega
 have CS : Hid (∀ W, Calls Tryz.prog 63 #[.string (txt l), .int .i64 ((firstD n : Nat) : Int), .int .i64 ((n : Int) - ((firstD n : Nat) : Int)), .bool false] W fun e w' => e = .returned (.tuple #[.string (txt (Bm.stL l (firstD n) false (n - firstD n))), .bool true]) /\ Below W.heap.size W w') := fun W => by
  rw [<- hst, <- hsub]
  exact Bm.set_any (txt l) (firstD n) _ false W (by rw [txt_size]; omega) (by omega) (by omega)
 have CE : Hid (∀ W, Calls Tryz.prog 72 #[.int .i64 (n : Int)] W fun e w' => e = .returned (.string (txt (TS.emptyM n))) /\ Hid (Below W.heap.size W w')) := fun W => emptyMap_any n h1 hn W
 have HR : Hid (rightB n l = ((txt (Bm.stL l (firstD n) false (n - firstD n))).toList == (txt (TS.emptyM n)).toList)) := by
  show _ = _
  rw [str_dec]; rfl
 have hq2 : firstD n <= 65 := by omega
 clear hst hq hnb hsub hl
 generalize rightB n l = R at *
 generalize firstD n = q at *
 generalize txt (Bm.stL l q false (n - q)) = Z at *
 generalize txt (TS.emptyM n) = E at *
 generalize txt l = T at *
 go_enter Tryz.func149, Tryz.ntmps149
 go_wp2_with fail
 refine CF.out.mono ?_
 rintro e w1 ⟨rfl, rfl⟩
 go_wp2_with fail
 refine (CS.out _).mono ?_
 rintro e w1 ⟨rfl, hb1⟩
 have HB1 := Lib.hid hb1; clear hb1
 go_wp2_with fail
 refine (CE.out _).mono ?_
 rintro e w2 ⟨rfl, HB2'⟩
 have HB2 := Lib.hid (HB1.out.trans (HB2'.out.mono HB1.out.size)); clear HB2'
 go_wp2
 go_ret
 exact ⟨by rw [HR.out]; rfl, HB2.out⟩
end Go.Proofs.YthambopnmhkeeaaGreat
/- What Read, Begin and undo answer and leave. -/
set_option maxRecDepth 100000
namespace Go.Proofs.YthambopnmhkeeaaGreat
open Go.RowKit
theorem enters_hread : ∀ args w, (callFunc 198 args).run Tryz.prog w = .ok (.enter 198 args) w := enters_of Tryz.func198 (by kernel_rfl) rfl
theorem meth_hread (h : Nat) : ∀ w, (method (Tryz.prog.types.size + Made.depth) 93 (.pointer (some ⟨h, 0, none⟩)) "Read").run Tryz.prog w = .ok (198, .pointer (some ⟨h, 0, none⟩)) w := fun w => by kernel_rfl
section
variable {S SH SC S1 T : Nat -> Prop} {w w1 w2 w' : World} {s h c p n N N' mi mi' : Nat} {H : Int -> ByteArray} {bits keep : ByteArray} {op : Bool} {C C' : Ca.CS} {P P' : TS}
theorem Sm.get (m : Sm S SH SC w s h c p n N H bits keep op C) (i : Int) (h1 : 62 <= i) (h2 : i < n) (hm : C.misses < 1000000) (hz : (H i).size = 256) :
  Calls Tryz.prog 98 #[.pointer (some ⟨c, 0, none⟩), .int .i64 i] w fun e w' => e = .returned (.tuple #[.string (C.get i (H i) 0).1.1, .int .i64 (C.get i (H i) 0).1.2]) /\ ∃ S' SC', (∀ k, S' k -> S k \/ w.heap.size <= k) /\ Sm S' SH SC' w' s h c p n N H bits keep op (C.get i (H i) 0).2 /\ Only S w w' := by
 obtain ⟨bm, ov, hcb⟩ := m.cch
 obtain ⟨SD, j, sv, L, J, D, F, G, g⟩ := m.home
 have h4 := g.n4
 have hi : -9223372036854775808 <= i /\ i <= 9223372036854775807 := by omega
 cases hf : Ca.fx C.L i with
 | some q =>
  obtain ⟨k, x⟩ := q
  have hfs := Ca.fx_some hf
  have he : C.get i (H i) 0 = ((x.data, 0), { C with L := x :: C.L.eraseIdx k }) := by unfold Ca.CS.get; rw [hf]
  rw [he]
  exact (Ca.get_hit i k x hf hcb).mono fun e w' ⟨e1, e2⟩ => ⟨e1, m.cached e2⟩
 | none =>
  refine (Ca.get_miss i hi hf 93 _ rfl hcb hm 198 (H i) 0 (by omega) (fun _ => False) (fun _ => True) (fun _ h => h.elim) (meth_hread h) enters_hread (fun W hW => ?_)).mono fun e w' ⟨w1, _, o1, e1, e2⟩ => ⟨e1, ?_⟩
  ·refine (hread_any (g.below hW) i h1 h2).mono fun e w' ⟨e1, e2⟩ => ⟨e1, Only.of_below _ e2 (Nat.le_refl _), trivial⟩
  ·have hb1 : Below w.heap.size w w1 := o1.below (Nat.le_refl _) (fun _ _ h => h.elim)
   obtain ⟨S', SC', a1, a2, a3⟩ := (m.below hb1).cached e2
   refine ⟨S', SC', fun k hk => ?_, a2, (Only.of_below S hb1 (Nat.le_refl _)).trans a3 (fun _ _ h => h)⟩
   rcases a1 k hk with h | h
   ·exact .inl h
   ·exact .inr (Nat.le_trans hb1.size h)
set_option maxHeartbeats 1000000 in
theorem sread_any (m : St S w s p P N mi) (i : Int) (hi : -9223372036854775808 <= i /\ i <= 9223372036854775807) (hm : mi < 1000000) :
  Calls Tryz.prog 41 #[.pointer (some ⟨s, 0, none⟩), .int .i64 i] w fun e w' => e = .returned (.tuple #[.string (P.read i).1, .int .i64 (P.read i).2]) /\ Hid (StL S w w' s p P N (mi + 1)) := by
 have hm0 := m
 obtain ⟨SH, SC, h, c, C, a, kc, ok, h64, hmi⟩ := m
 obtain ⟨j, D, SD, ch, cj, hd, hl, hn, h4, _⟩ := a.head
 have c0 := a.c0; have c1 := a.c1
 have CB := Lib.hid (dead_any hd)
 rw [hl] at CB
 have CI := Lib.hid (sisData_any a i 1 hi)
 by_cases hdt : P.data i 1 = true
 ·have hdd : decide ((firstD P.n : Int) <= i) = true /\ decide ((1 : Int) <= (P.n : Int) - i) = true := by simpa [TS.data] using hdt
  have hf : 63 <= firstD P.n := by unfold firstD; omega
  rw [hdd.1, hdd.2] at CI
  have d1 := of_decide_eq_true hdd.1
  have d2 := of_decide_eq_true hdd.2
  have hrd : P.read i = (P.t i, 0) := by unfold TS.read; rw [if_neg (by rw [hdt]; simp)]
  have hnd : C.nd < C.most := by
   have : C.nd <= 48 := by rw [kc.count P.n (fun i hi => by have := ok.rng i hi; omega)]; exact ok.few
   omega
  obtain ⟨g1, g2, g3, g4, g5⟩ := kc.get i hi hnd (by omega) (by rw [ok.st i]; omega) (P.H i) (fun hd => (ok.same i hd).symm)
  have HG := Lib.hid (a.get i (by omega) (by omega) (by omega) (ok.sH i))
  rw [g1] at HG
  have HF : Hid (∀ w', (∃ S' SC', (∀ k, S' k -> S k \/ w.heap.size <= k) /\ Sm S' SH SC' w' s h c p P.n N P.H (txt P.bits) (txt P.keep) P.op (C.get i (P.H i) 0).2 /\ Only S w w') -> StL S w w' s p P N (mi + 1)) := fun w' ⟨S', SC', b1, b2, b3⟩ =>
   ⟨S', b1, ⟨SH, SC', h, c, _, b2, g2, ok, by omega, by omega⟩, b3⟩
  rw [hrd]
  clear hm0 a kc ok hd hl hdd d1 d2 hf hrd hdt g1 g2 g3 g4 g5 hnd hn
  go_enter Tryz.func41, Tryz.ntmps41
  go_wp2_with fail
  refine CB.out.mono ?_
  rintro e w1 ⟨rfl, rfl⟩
  go_wp2_with fail
  refine CI.out.mono ?_
  rintro e w1 ⟨rfl, rfl⟩
  go_wp2_with fail
  refine HG.out.mono ?_
  rintro e w1 ⟨rfl, hv⟩
  have HV := Lib.hid (HF.out _ hv)
  clear hv
  go_wp2
  go_ret2
  exact ⟨rfl, HV.out⟩
 ·have hdf : P.data i 1 = false := by simpa using hdt
  have hrd : P.read i = (⟨#[]⟩, 2) := by unfold TS.read; rw [if_pos hdf]
  have hdd : (decide ((firstD P.n : Int) <= i) && decide ((1 : Int) <= (P.n : Int) - i)) = false := hdf
  rw [hdd] at CI
  have HV : Hid (StL S w w s p P N (mi + 1)) := (StL.refl hm0).more (Nat.le_succ _)
  rw [hrd]
  clear hm0 a kc ok hd hl hdd hdf hrd hdt hn
  go_enter Tryz.func41, Tryz.ntmps41
  go_wp2_with fail
  refine CB.out.mono ?_
  rintro e w1 ⟨rfl, rfl⟩
  go_wp2_with fail
  refine CI.out.mono ?_
  rintro e w1 ⟨rfl, rfl⟩
  go_wp2
  go_ret2
  exact ⟨rfl, HV.out⟩
set_option maxHeartbeats 1000000 in
theorem sbegin_any (m : St S w s p P N mi) :
  Calls Tryz.prog 38 #[.pointer (some ⟨s, 0, none⟩)] w fun e w' => e = .returned (.int .i64 P.begin_.1) /\ Hid (StL S w w' s p P.begin_.2 N mi) := by
 have hm0 := m
 obtain ⟨SH, SC, h, c, C, a, kc, ok, h64, hmi⟩ := m
 obtain ⟨j, D, SD, ch, cj, hd, hl, hn, h4, _⟩ := a.head
 have c0 := a.c0; have c4 := a.c4; have f4 := a.f 4
 have CB := Lib.hid (dead_any hd)
 rw [hl] at CB
 by_cases ho : P.op = true
 ·have hb : P.begin_ = (15, P) := by unfold TS.begin_; rw [if_pos ho]
  have HV : Hid (StL S w w s p P N mi) := StL.refl hm0
  rw [hb]
  rw [ho] at c4
  clear hm0 a kc ok hd hl hb ho hn
  go_enter Tryz.func38, Tryz.ntmps38
  go_wp2_with fail
  refine CB.out.mono ?_
  rintro e w1 ⟨rfl, rfl⟩
  go_wp2
  go_ret
  exact ⟨rfl, HV.out⟩
 ·have ho : P.op = false := by simpa using ho
  have hok := ok.begin_
  have hb : P.begin_ = (0, { P with op := true }) := by unfold TS.begin_; rw [if_neg (by rw [ho]; simp)]
  rw [hb] at hok
  have HV : Hid (StL S w (w.setCell ⟨s, 4, none⟩ (.bool true)) s p { P with op := true } N mi) := by
   obtain ⟨b1, b2⟩ := a.put 4 (.bool true) (bits' := txt P.bits) (keep' := txt P.keep) (op' := true) rfl
   exact ⟨S, fun _ => .inl, ⟨SH, SC, h, c, C, b1, kc, hok, h64, hmi⟩, b2⟩
  rw [hb]
  rw [ho] at c4
  clear hm0 a kc ok hd hl hb ho hok hn
  go_enter Tryz.func38, Tryz.ntmps38
  go_wp2_with fail
  refine CB.out.mono ?_
  rintro e w1 ⟨rfl, rfl⟩
  go_wp2
  go_ret
  exact ⟨rfl, HV.out⟩
theorem undo_is (m : Sm S SH SC w s h c p n N H bits keep op C) (hl : Ca.CLeaves SC (w.setCell ⟨s, 4, none⟩ (.bool false)) w' c (.iface 93 (.pointer (some ⟨h, 0, none⟩))) C.drop) :
  (w'.cell? ⟨s, 3, none⟩ = some (.string keep) /\ w'.cell? ⟨s, 2, none⟩ = some (.string bits) /\ w'.frozen? ⟨s, 2, none⟩ = false) /\ ∃ S' SC', (∀ k, S' k -> S k \/ w.heap.size <= k) /\ Sm S' SH SC' (w'.setCell ⟨s, 2, none⟩ (.string keep)) s h c p n N H keep keep false C.drop /\ Only S w (w'.setCell ⟨s, 2, none⟩ (.string keep)) := by
 obtain ⟨b1, b2⟩ := m.put 4 (.bool false) (bits' := bits) (keep' := keep) (op' := false) rfl
 obtain ⟨S', SC', d1, d2, d3⟩ := b1.cached hl
 obtain ⟨g1, g2⟩ := d2.put 2 (.string keep) (bits' := keep) (keep' := keep) (op' := false) rfl
 refine ⟨⟨d2.c3, d2.c2, d2.f 2⟩, S', SC', fun k hk => ?_, g1, ?_⟩
 ·rcases d1 k hk with h | h
  ·exact .inl h
  ·exact .inr (by simpa [World.setCell] using h)
 ·refine (b2.trans d3 (fun _ _ h => h)).trans g2 (fun k hk h => ?_)
  rcases d1 k h with h | h
  ·exact h
  ·have : (w.setCell ⟨s, 4, none⟩ (.bool false)).heap.size = w.heap.size := by simp [World.setCell]
   omega
set_option maxHeartbeats 1000000 in
theorem sundo_any (m : Sm S SH SC w s h c p n N H bits keep op C) :
  Calls Tryz.prog 92 #[.pointer (some ⟨s, 0, none⟩)] w fun e w' => e = .returned (.tuple #[]) /\ ∃ S' SC', (∀ k, S' k -> S k \/ w.heap.size <= k) /\ Sm S' SH SC' w' s h c p n N H keep keep false C.drop /\ Only S w w' := by
 have c4 := m.c4; have f4 := m.f 4
 obtain ⟨b1, b2⟩ := m.put 4 (.bool false) (bits' := bits) (keep' := keep) (op' := false) rfl
 have e1 := b1.c1
 have CD := Lib.hid (Ca.drop_any b1.cch)
 have HF : Hid (∀ w', Ca.CLeaves SC (w.setCell ⟨s, 4, none⟩ (.bool false)) w' c (.iface 93 (.pointer (some ⟨h, 0, none⟩))) C.drop -> _) := fun w' => undo_is m (w' := w')
 clear m b1 b2
 go_enter Tryz.func92, Tryz.ntmps92
 go_wp2_with fail
 refine CD.out.mono ?_
 rintro e w1 ⟨rfl, hv⟩
 obtain ⟨⟨e3, e2, f2⟩, hF⟩ := HF.out _ hv
 have HV := Lib.hid hF
 clear hv hF e1 CD HF
 go_wp2
 go_end0
 exact ⟨rfl, HV.out⟩
set_option maxHeartbeats 1000000 in
theorem sundo_deferred (m : Sm S SH SC w s h c p n N H bits keep op C) (u : FrameMode) :
  CallsD Tryz.prog 92 #[.pointer (some ⟨s, 0, none⟩)] u w fun e u' w' => u' = u /\ (e = .returned (.tuple #[]) /\ ∃ S' SC', (∀ k, S' k -> S k \/ w.heap.size <= k) /\ Sm S' SH SC' w' s h c p n N H keep keep false C.drop /\ Only S w w') := by
 have c4 := m.c4; have f4 := m.f 4
 obtain ⟨b1, b2⟩ := m.put 4 (.bool false) (bits' := bits) (keep' := keep) (op' := false) rfl
 have e1 := b1.c1
 have CD := Lib.hid (Ca.drop_any b1.cch)
 have HF : Hid (∀ w', Ca.CLeaves SC (w.setCell ⟨s, 4, none⟩ (.bool false)) w' c (.iface 93 (.pointer (some ⟨h, 0, none⟩))) C.drop -> _) := fun w' => undo_is m (w' := w')
 clear m b1 b2
 go_enter_d Tryz.func92, Tryz.ntmps92
 go_wp2_with fail
 refine CD.out.mono ?_
 rintro e w1 ⟨rfl, hv⟩
 obtain ⟨⟨e3, e2, f2⟩, hF⟩ := HF.out _ hv
 have HV := Lib.hid hF
 clear hv hF e1 CD HF
 go_wp2
 go_end0
 exact ⟨rfl, HV.out⟩
theorem St.undone (m : Sm S SH SC w s h c p P.n N P.H (txt P.bits) (txt P.keep) P.op C) (kc : Ca.Kc C P.t P.d) (ok : P.Ok) (h64 : 64 <= C.most) (hmi : C.misses <= mi)
  (h : ∃ S' SC', (∀ k, S' k -> S k \/ w.heap.size <= k) /\ Sm S' SH SC' w' s h c p P.n N P.H (txt P.keep) (txt P.keep) false C.drop /\ Only S w w') : StL S w w' s p P.undo N mi := by
 obtain ⟨S', SC', a1, a2, a3⟩ := h
 obtain ⟨k1, _, k3, k4⟩ := kc.drop P.H (fun i hi => (ok.same i hi).symm)
 exact ⟨S', a1, ⟨SH, SC', _, c, C.drop, a2, k1, ok.undo.1, by rw [k3]; exact h64, by rw [k4]; exact hmi⟩, a3⟩
set_option maxHeartbeats 1000000 in
theorem sabort_any (m : St S w s p P N mi) :
  Calls Tryz.prog 37 #[.pointer (some ⟨s, 0, none⟩)] w fun e w' => e = .returned (.tuple #[]) /\ Hid (StL S w w' s p P.undo N mi) := by
 obtain ⟨SH, SC, h, c, C, a, kc, ok, h64, hmi⟩ := m
 have CU := Lib.hid (sundo_any a)
 have HF : Hid (∀ w', _ -> StL S w w' s p P.undo N mi) := fun w' => St.undone (w' := w') a kc ok h64 hmi
 clear a kc ok
 go_enter Tryz.func37, Tryz.ntmps37
 go_wp2_with fail
 refine CU.out.mono ?_
 rintro e w1 ⟨rfl, hv⟩
 have HV := Lib.hid (HF.out _ hv)
 clear hv
 go_wp2
 go_end0
 exact ⟨rfl, HV.out⟩
end
end Go.Proofs.YthambopnmhkeeaaGreat
/- What turnedBlocks answers. -/
set_option maxRecDepth 100000
namespace Go.Proofs.YthambopnmhkeeaaGreat
open Go.RowKit
open Fr (SlW OwnW flatI two_cells two_one own_pushW)
def tM (was bits : List UInt8) (k : Nat) : List Wr := ((List.range k).filter fun k => blkM bits k != blkM was k).map fun k => (((63 + k : Nat) : Int), txt (blkM bits k))
theorem tM_succ (was bits : List UInt8) (k : Nat) : tM was bits (k + 1) = if blkM bits k = blkM was k then tM was bits k else tM was bits k ++ [(((63 + k : Nat) : Int), txt (blkM bits k))] := by
 unfold tM
 rw [List.range_succ, List.filter_append, List.map_append]
 by_cases h : blkM bits k = blkM was k
 ·rw [if_pos h, List.filter_cons_of_neg (by simp [h])]; simp
 ·rw [if_neg h, List.filter_cons_of_pos (by simpa using h)]; rfl
theorem tM_len (was bits : List UInt8) (k : Nat) : (tM was bits k).length <= k := by
 unfold tM
 rw [List.length_map]
 exact Nat.le_trans (List.length_filter_le _ _) (by rw [List.length_range]; exact Nat.le_refl _)
set_option maxHeartbeats 2000000 in
theorem turned_any (was bits : List UInt8) (m : Nat) (h1 : was.length = 256 * m) (h2 : bits.length = 256 * m) (hm : m <= 2) (w : World) :
  Calls Tryz.prog 151 #[.string (txt was), .string (txt bits)] w fun e w' => ∃ v, e = .returned v /\ Hid (OwnW w.heap.size w' v (tM was bits m)) /\ Hid (Below w.heap.size w w') := by
 obtain ⟨i0, hi, hz0, hz1, hz2⟩ := info_parts Tryz.infoW
 have HZ2 := Lib.hid hz2; clear hz2
 have C1 := Lib.hid (mapBlocks_any was m h1 hm w)
 have C2 : Hid (∀ W, _) := fun W => mapBlocks_any bits m h2 hm W
 have HSu : Hid (∀ k, tM was bits (k + 1) = if blkM bits k = blkM was k then tM was bits k else tM was bits k ++ [(((63 + k : Nat) : Int), txt (blkM bits k))]) := fun k => tM_succ was bits k
 have HLn : Hid (∀ k, (tM was bits k).length <= k) := fun k => tM_len was bits k
 clear h1 h2
 go_enter Tryz.func151, Tryz.ntmps151
 go_wp2_with fail
 refine C1.out.mono ?_
 rintro e w1 ⟨v1, rfl, HO1, HB1⟩
 have hb1 := HB1.out.size
 go_wp2_with fail
 refine (C2.out w1).mono ?_
 rintro e w2 ⟨v2, rfl, HO2, HB2'⟩
 have HB2 := Lib.hid (HB1.out.trans (HB2'.out.mono hb1))
 have HO1' : Hid (OwnW w.heap.size w2 v1 (mapL m was)) := HO1.out.below HB2'.out
 have HO2' : Hid (OwnW w.heap.size w2 v2 (mapL m bits)) := Fr.OwnW.mono HO2.out hb1
 obtain ⟨a1, c1, hv1⟩ := own_shape HO1'.out
 obtain ⟨a2, c2, hv2⟩ := own_shape HO2'.out
 rw [mapL_len] at hv1 hv2
 subst hv1 hv2
 clear HO1 HO2 HB1 HB2' C1 C2
 go_wp2_with fail
 go_loopw [6, 14] (fun wv i wr => ∃ k : Nat, k <= m /\ i = .int .i64 k /\ Hid (OwnW w2.heap.size wr wv (tM was bits k)) /\ Hid (Below w2.heap.size w2 wr)) (fun _ i _ => m - (intOf i).toNat)
 case atStart => exact ⟨0, Nat.zero_le _, rfl, Fr.OwnW.nil _ _, Below.refl _ _⟩
 case round =>
  obtain ⟨k, hk, rfl, HO, HB⟩ := hrel
  have hbr := HB.out.size
  by_cases hlt : k < m
  ·obtain ⟨g1, d1, hv1, hc1, _, hl1, hw1, _⟩ := HO1'.out.here (by rw [mapL_len]; omega)
   obtain ⟨g2, d2, hv2, hc2, _, hl2, hw2, _⟩ := HO2'.out.here (by rw [mapL_len]; omega)
   have x1 := hw1 k (by rw [mapL_len]; exact hlt)
   have x2 := hw2 k (by rw [mapL_len]; exact hlt)
   rw [mapL_get] at x1 x2
   rw [mapL_len] at hv1 hv2 hc1 hc2
   obtain ⟨rfl, rfl⟩ : a1 = some ⟨g1, 0, none⟩ /\ c1 = d1 := by simpa using hv1
   obtain ⟨rfl, rfl⟩ : a2 = some ⟨g2, 0, none⟩ /\ c2 = d2 := by simpa using hv2
   rw [Nat.zero_add] at x1 x2
   have ek : ((63 + k : Nat) : Int) = 63 + (k : Int) := by omega
   have hsk := HSu.out k
   rw [ek] at hsk x1 x2
   have HSk := Lib.hid hsk
   clear ek hsk
   have e1a : wr.cell? ⟨g1, k * 2, none⟩ = some (.int .i64 (63 + (k : Int))) := (HB.out.cell (p := ⟨g1, k * 2, none⟩) hl1).trans x1.1
   have e1b : wr.cell? ⟨g1, k * 2 + 1, none⟩ = some (.string (txt (blkM was k))) := (HB.out.cell (p := ⟨g1, k * 2 + 1, none⟩) hl1).trans x1.2
   have e2a : wr.cell? ⟨g2, k * 2, none⟩ = some (.int .i64 (63 + (k : Int))) := (HB.out.cell (p := ⟨g2, k * 2, none⟩) hl2).trans x2.1
   have e2b : wr.cell? ⟨g2, k * 2 + 1, none⟩ = some (.string (txt (blkM bits k))) := (HB.out.cell (p := ⟨g2, k * 2 + 1, none⟩) hl2).trans x2.2
   have hlen := HLn.out k
   have hg1 : g1 < wr.heap.size := Nat.lt_of_lt_of_le hl1 hbr
   clear hv1 hv2 x1 x2 hw1 hw2
   obtain ⟨M, hM⟩ : ∃ M, tM was bits k = M := ⟨_, rfl⟩
   rw [hM] at HO HSk hlen
   clear hM
   obtain ⟨ao2, cc2, hv⟩ := own_shape HO.out
   subst hv
   have hdec := str_dec (blkM bits k) (blkM was k)
   obtain ⟨X, hX⟩ : ∃ X, wr.alloc (.cells #[.int .i64 (63 + (k : Int)), .string (txt (blkM bits k))] 63) = X := ⟨_, rfl⟩
   generalize blkM bits k = bk at *
   generalize blkM was k = wk at *
   have hbX : Below wr.heap.size wr X := by rw [<- hX]; exact (Below.refl _ _).alloc (Nat.le_refl _) _
   have y0 : X.cell? ⟨wr.heap.size, 0, none⟩ = some (.int .i64 (63 + (k : Int))) := by rw [<- hX, cell_at (heap_alloc_new ..)]; rfl
   have y1 : X.cell? ⟨wr.heap.size, 1, none⟩ = some (.string (txt bk)) := by rw [<- hX, cell_at (heap_alloc_new ..)]; rfl
   have z0 : X.cell? ⟨g1, k * 2, none⟩ = some (.int .i64 (63 + (k : Int))) := (hbX.cell (p := ⟨g1, k * 2, none⟩) hg1).trans e1a
   have z1 : X.cell? ⟨g1, k * 2 + 1, none⟩ = some (.string (txt wk)) := (hbX.cell (p := ⟨g1, k * 2 + 1, none⟩) hg1).trans e1b
   have HX := Lib.hid hX
   have HBX := Lib.hid hbX
   have hXz : X.heap.size = wr.heap.size + 1 := by rw [<- hX]; simp
   clear hX hbX
   by_cases he : bk = wk
   ·rw [if_pos he] at HSk
    rw [decide_eq_true he] at hdec
    generalize txt bk = A at *
    generalize txt wk = Bq at *
    go_wp2_with fail
    rw [HX.out]
    clear e1a e1b e2a e2b
    go_quiet (fail)
    have HBn : Hid (Below w2.heap.size w2 (X.drewN nq)) := HB.out.trans (Fr.below_drewN (HBX.out.mono hbr) _)
    have HO3 : Hid (OwnW w2.heap.size (X.drewN nq) (.slice ao2 M.length cc2) (tM was bits (k + 1))) := by show OwnW _ _ _ _; rw [HSk.out]; exact HO.out.below (Fr.below_drewN HBX.out _)
    go_wp2
    go_roundw
    case rel => exact ⟨k + 1, by omega, by go_num, HO3.out, HBn.out⟩
    case measure => simp [intOf]; omega
   ·rw [if_neg he] at HSk
    rw [decide_eq_false he] at hdec
    generalize txt bk = A at *
    generalize txt wk = Bq at *
    go_wp2_with fail
    rw [HX.out]
    clear e1a e1b e2a e2b
    go_quiet (fail)
    have HBn : Hid (Below w2.heap.size w2 (X.drewN nq)) := HB.out.trans (Fr.below_drewN (HBX.out.mono hbr) _)
    have HO2 : Hid (OwnW w2.heap.size (X.drewN nq) (.slice ao2 M.length cc2) M) := HO.out.below (Fr.below_drewN HBX.out _)
    have hzq : w2.heap.size <= (X.drewN nq).heap.size := HBn.out.size
    go_wp2_with (at_builtin; go_loud (refine wpList_append_own _ rfl _ _ 49 rfl w2.heap.size 63 i0 _ 2 24 Tryz.underlying49 hi hz0 hz1 HZ2.out rfl (by decide) _ _ _ rfl (HO2.out.alloc _) _ 1 1 [.int .i64 (63 + (k : Int)), .string A] rfl rfl (two_cells (by simp [hXz])) two_one ?c3 ?c4 ?c5 ?_))
    case c3 => unfold maxLen; omega
    case c4 => omega
    case c5 => simp; omega
    intro v1 w3 hown hgrow _
    have HO3 : Hid (OwnW w2.heap.size w3 v1 (tM was bits (k + 1))) := by show OwnW _ _ _ _; rw [HSk.out]; exact own_pushW hown
    have HB3 : Hid (Below w2.heap.size w2 w3) := (HBn.out.alloc HBn.out.size _).grown hgrow (by have := HBn.out.size; simp; omega) (fun q hq => (HO2.out.lt q hq).1)
    clear hown hgrow HO2
    go_wp2
    go_roundw
    case rel => exact ⟨k + 1, by omega, by go_num, HO3.out, HB3.out⟩
    case measure => simp [intOf]; omega
  ·have hkm : k = m := by omega
   subst hkm
   have HBf := Lib.hid (HB2.out.trans (HB.out.mono HB2.out.size))
   go_wp2
   go_ret
   exact ⟨_, rfl, Fr.OwnW.mono HO.out HB2.out.size, HBf.out⟩
end Go.Proofs.YthambopnmhkeeaaGreat
/- What Used and Free tell. -/
set_option maxRecDepth 100000
namespace Go.Proofs.YthambopnmhkeeaaGreat
open Go.RowKit
def tuB (l : List UInt8) (k : Nat) : List UInt8 := (l.take k).map (fun b => ~~~b) ++ l.drop k
theorem tuB_zero (l : List UInt8) : tuB l 0 = l := by simp [tuB]
theorem tuB_all (l : List UInt8) (k : Nat) (h : l.length <= k) : tuB l k = turnB l := by unfold tuB turnB; rw [List.take_of_length_le h, List.drop_eq_nil_of_le h, List.append_nil]
theorem tuB_len (l : List UInt8) (k : Nat) : (tuB l k).length = l.length := by simp [tuB]; omega
theorem tuB_get (l : List UInt8) (k : Nat) (h : k < l.length) (h2 : k < (tuB l k).length) : (tuB l k)[k] = l[k] := by
 have h3 : (tuB l k)[k]? = l[k]? := by
  unfold tuB
  rw [List.getElem?_append_right (by simp; omega), List.getElem?_drop]
  simp only [List.length_map, List.length_take]
  congr 1; omega
 rw [List.getElem?_eq_getElem h, List.getElem?_eq_getElem h2] at h3
 exact Option.some.inj h3
theorem tuB_succ (l : List UInt8) (k : Nat) (h : k < l.length) : tuB l (k + 1) = (tuB l k).set k (~~~l[k]) := by
 apply List.ext_getElem?
 intro i
 unfold tuB
 rw [List.getElem?_set]
 by_cases hi : i < k + 1
 ·rw [List.getElem?_append_left (by simp; omega)]
  by_cases e : k = i
  ·subst e
   simp [h]
   omega
  ·rw [if_neg e, List.getElem?_append_left (by simp; omega)]
   simp [show i < k by omega, hi]
 ·rw [if_neg (by omega), List.getElem?_append_right (by simp; omega), List.getElem?_append_right (by simp; omega)]
  simp only [List.length_map, List.length_take, List.getElem?_drop]
  congr 1; omega
theorem not_all : ∀ b : Fin 256, bits BinOp.xor IntKind.u8 (if IntKind.u8.signed = true then -1 else IntKind.u8.max) (b.1 : Int) = ((~~~(UInt8.ofNat b.1)).toNat : Int) := by decide +kernel
theorem not_u8 (y : UInt8) : bits BinOp.xor IntKind.u8 (if IntKind.u8.signed = true then -1 else IntKind.u8.max) (y.toNat : Int) = ((~~~y).toNat : Int) := by
 have := not_all ⟨y.toNat, y.toNat_lt⟩
 simpa using this
section
variable {S SH SC S1 T : Nat -> Prop} {w w1 w2 w' : World} {s h c p n N N' mi mi' : Nat} {H H' : Int -> ByteArray} {bits keep : ByteArray} {op : Bool} {C C' : Ca.CS} {P P' : TS}
set_option maxHeartbeats 1000000 in
theorem sfree_any (m : St S w s p P N mi) : Calls Tryz.prog 17 #[.pointer (some ⟨s, 0, none⟩)] w fun e w' => e = .returned (.int .i64 (Bm.fr P.bits P.n : Nat)) /\ Hid (Below w.heap.size w w') := by
 obtain ⟨SH, SC, h, c, C, a, kc, ok, h64, hmi⟩ := m
 obtain ⟨j, D, SD, ch, cj, hd, hl, hn, h4, hhl, hjl, _⟩ := a.head
 have c0 := a.c0; have c2 := a.c2
 have hsl := a.lt
 have hlen := ok.len
 have hfi : Bm.fi (txt P.bits).size (P.n : Int) = P.n := by rw [txt_size, hlen]; unfold Bm.fi nbM; omega
 have CB : Hid (∀ W, Below w.heap.size w W -> Calls Tryz.prog 58 #[.pointer (some ⟨p, 0, none⟩)] W fun e w' => e = .returned (.int .i64 (P.n : Int)) /\ W = w') := fun W hW => by
  have := blocks_any (hd.below hW)
  rw [hn] at this; exact this
 have CF : Hid (∀ W, Calls Tryz.prog 57 #[.string (txt P.bits), .int .i64 (P.n : Int)] W fun e w' => e = .returned (.int .i64 (Bm.fr P.bits P.n : Nat)) /\ Below W.heap.size W w') := fun W => by
  have := Bm.free_any (txt P.bits) (P.n : Int) W (by rw [txt_size, hlen]; unfold nbM; omega) (by omega)
  rw [hfi, txt_data] at this; exact this
 have HK : Hid (∀ W, Below w.heap.size w W -> W.cell? ⟨s, 0, none⟩ = some (.pointer (some ⟨h, 0, none⟩)) /\ W.cell? ⟨s, 2, none⟩ = some (.string (txt P.bits)) /\ W.cell? ⟨h, 0, none⟩ = some (.pointer (some ⟨j, 0, none⟩)) /\ W.cell? ⟨j, 0, none⟩ = some (.pointer (some ⟨p, 0, none⟩))) := fun W hW =>
  ⟨(hW.cell (p := ⟨s, 0, none⟩) hsl).trans c0, (hW.cell (p := ⟨s, 2, none⟩) hsl).trans c2, (hW.cell (p := ⟨h, 0, none⟩) hhl).trans ch, (hW.cell (p := ⟨j, 0, none⟩) hjl).trans cj⟩
 clear a kc ok hd hl hn hfi hlen
 generalize Bm.fr P.bits P.n = q at *
 generalize txt P.bits = TB at *
 generalize P.n = n at *
 go_enter Tryz.func17, Tryz.ntmps17
 go_wp2_with fail
 go_region_held3 (fun W => W.cell? ⟨s, 0, none⟩ = some (.pointer (some ⟨h, 0, none⟩)) /\ W.cell? ⟨s, 2, none⟩ = some (.string TB) /\ W.cell? ⟨h, 0, none⟩ = some (.pointer (some ⟨j, 0, none⟩)) /\ W.cell? ⟨j, 0, none⟩ = some (.pointer (some ⟨p, 0, none⟩)))
  (first | exact ⟨c0, c2, ch, cj⟩ | assumption)
  (first
   | (go_at_call 58; refine (CB.out _ ((Below.refl _ _).drew)).mono ?_; rintro e w1 ⟨rfl, rfl⟩)
   | (go_at_call 57; refine (CF.out _).mono ?_; rintro e w1 ⟨rfl, hb1'⟩; have hb1 : Below w.heap.size w w1 := Fr.below_predrew hb1'; have hh1 := HK.out w1 hb1))
 have HB1 := Lib.hid hb1
 clear hb1 hb1' hh1
 go_wp2
 go_ret
 exact ⟨rfl, HB1.out⟩
set_option maxHeartbeats 2000000 in
theorem sused_any (m : St S w s p P N mi) : Calls Tryz.prog 22 #[.pointer (some ⟨s, 0, none⟩)] w fun e w' => ∃ v, e = .returned v /\ Hid (Bm.OwnX w.heap.size w' v (Bm.rs (Bm.stL (turnB P.bits) 0 true (firstD P.n)) P.n)) /\ Hid (Below w.heap.size w w') := by
 have hm0 := m
 obtain ⟨SH, SC, h, c, C, a, kc, ok, h64, hmi⟩ := m
 obtain ⟨j, D, SD, ch, cj, hd, hl, hn, h4, hhl, hjl, _⟩ := a.head
 have c0 := a.c0; have c2 := a.c2
 have hsl := a.lt
 have hlen := ok.len
 obtain ⟨cap, w2, hcv, hrow, hbel, hcap⟩ := Bm.bytes_new w (txt P.bits)
 rw [txt_data] at hrow
 rw [txt_size] at hcv
 have HR := Lib.hid hrow; clear hrow
 have HB := Lib.hid hbel; clear hbel
 obtain ⟨g, hg⟩ : ∃ g, w.heap.size = g := ⟨_, rfl⟩
 rw [hg] at HR HB hcv hcap
 have HG := Lib.hid hg
 have hq : P.bits.length <= 1024 := by rw [hlen]; unfold nbM; omega
 have HT0 := Lib.hid (tuB_zero P.bits)
 have HTS := Lib.hid (tuB_succ P.bits)
 have HTG := Lib.hid (tuB_get P.bits)
 have HTL := Lib.hid (tuB_len P.bits)
 obtain ⟨q, hq1⟩ : ∃ q, P.bits.length = q := ⟨_, rfl⟩
 have HQ := Lib.hid hq1
 have HLen := Lib.hid hlen
 have HPos : Hid (0 < P.bits.length) := by show 0 < _; have := ok.n0; rw [hlen]; unfold nbM; omega
 have HA := Lib.hid a
 have HDv := Lib.hid hd
 have HDn := Lib.hid hn
 have hf65 : firstD P.n <= 65 := by unfold firstD nbM; omega
 have HSet : Hid (Bm.setV (txt (turnB P.bits)).data.toList ((0 : Nat) : Int) ((firstD P.n : Nat) : Int) true = .tuple #[.string (txt (Bm.stL (turnB P.bits) 0 true (firstD P.n))), .bool true]) := by
  show _ = _
  rw [Bm.setV_yes _ _ _ _ (by rw [txt_data]; unfold turnB; rw [List.length_map]; have := ok.n0; rw [hlen]; unfold nbM; omega)]
  rfl
 have hn0 := ok.n0
 rw [hq1] at hq hcv
 clear hq1 hlen
 clear a kc ok hl
 go_enter Tryz.func22, Tryz.ntmps22
 go_wp2_with fail
 clear hcv
 go_loopw [14] (fun v wr => ∃ k : Nat, k <= q /\ v = .int .i64 k /\ Hid (Bm.FRow wr g (tuB P.bits k)) /\ Hid (Below g w wr)) (fun v _ => q - (intOf v).toNat)
 case atStart => exact ⟨0, Nat.zero_le _, rfl, by show Bm.FRow _ _ _; rw [HT0.out]; exact HR.out, HB.out⟩
 case round =>
  clear HR HB
  obtain ⟨k, hk, rfl, HR, HB⟩ := hrel
  by_cases hlt : k < q
  ·have hkl : k < P.bits.length := by rw [HQ.out]; exact hlt
   have hk2 : k < (tuB P.bits k).length := by rw [HTL.out]; exact hkl
   have hcell := (HR.out _ hk2).1
   have hfr := (HR.out _ hk2).2
   have HP := Lib.hid (HR.out.put _ hk2 (~~~P.bits[k]))
   rw [HTG.out k hkl hk2] at hcell
   have HSk : Hid ((tuB P.bits k).set k (~~~P.bits[k]) = tuB P.bits (k + 1)) := (HTS.out k hkl).symm
   generalize P.bits[k] = y at *
   have HX := Lib.hid (not_u8 y)
   go_wp2_with fail
   rw [HX.out]
   have HP2 : Hid (Bm.FRow (wr.setCell ⟨g, k, none⟩ (.int .u8 ((~~~y).toNat : Int))) g (tuB P.bits (k + 1))) := by show Bm.FRow _ _ _; rw [<- HSk.out]; exact HP.out
   exact ⟨⟨k + 1, by omega, by go_num, HP2, HB.out.setCell (Nat.le_refl _) _⟩, by simp [intOf]; omega⟩
  ·obtain rfl : k = q := by omega
   have HRl : Hid (Bm.FRow wr g (turnB P.bits)) := by show Bm.FRow _ _ _; rw [<- tuB_all P.bits k (by rw [HQ.out]; exact Nat.le_refl _)]; exact HR.out
   have hconv : ∀ W, Below wr.heap.size wr W -> (convert 107 9 (.slice (some ⟨g, 0, none⟩) k cap)).run Tryz.prog W = .ok (.string (txt (turnB P.bits))) W := fun W hW => by
    have := (HRl.out.below hW (World.block_lt_of_cell? _ _ (HRl.out 0 (by unfold turnB; rw [List.length_map]; exact HPos.out)).1)).text (cap := cap)
    rw [show (turnB P.bits).length = k by unfold turnB; rw [List.length_map]; exact HQ.out] at this
    exact this
   have hbw : Below w.heap.size w wr := by rw [HG.out]; exact HB.out
   have CF : Hid (∀ W, Below wr.heap.size wr W -> Calls Tryz.prog 32 #[.pointer (some ⟨s, 0, none⟩)] W fun e w' => e = .returned (.int .i64 (firstD P.n : Nat)) /\ W = w') := fun W hW => sfirst_any ((HA.out.below hbw).below hW)
   have CS : Hid (∀ W, Calls Tryz.prog 63 #[.string (txt (turnB P.bits)), .int .i64 0, .int .i64 ((firstD P.n : Nat) : Int), .bool true] W fun e w' => e = .returned (.tuple #[.string (txt (Bm.stL (turnB P.bits) 0 true (firstD P.n))), .bool true]) /\ Below W.heap.size W w') := fun W => by
    rw [<- HSet.out]
    exact Bm.set_any (txt (turnB P.bits)) 0 (firstD P.n) true W (by rw [txt_size]; unfold turnB; rw [List.length_map, HQ.out]; omega) (by omega) (by omega)
   have CRu : Hid (∀ W, Calls Tryz.prog 64 #[.string (txt (Bm.stL (turnB P.bits) 0 true (firstD P.n))), .int .i64 (P.n : Int)] W fun e w' => ∃ v, e = .returned v /\ Bm.OwnX W.heap.size w' v (Bm.rs (Bm.stL (turnB P.bits) 0 true (firstD P.n)) P.n) /\ Below W.heap.size W w') := fun W => by
    have hz : (txt (Bm.stL (turnB P.bits) 0 true (firstD P.n))).size = 256 * nbM P.n := by rw [txt_size, Bm.stL_length]; unfold turnB; rw [List.length_map]; exact HLen.out
    have := Bm.runs_own (txt (Bm.stL (turnB P.bits) 0 true (firstD P.n))) (P.n : Int) W (by rw [hz]; unfold nbM; omega) (by omega)
    rw [show Bm.fi (txt (Bm.stL (turnB P.bits) 0 true (firstD P.n))).size (P.n : Int) = P.n by rw [hz]; unfold Bm.fi nbM; omega, txt_data] at this
    exact this
   have CB : Hid (∀ W, Below w.heap.size w W -> Calls Tryz.prog 58 #[.pointer (some ⟨p, 0, none⟩)] W fun e w' => e = .returned (.int .i64 (P.n : Int)) /\ W = w') := fun W hW => by
    have := blocks_any (HDv.out.below hW)
    rw [HDn.out] at this; exact this
   have HBW := Lib.hid hbw
   have hcv0 := hconv wr (Below.refl _ _)
   have HCv := Lib.hid hconv
   clear hconv hbw HRl HSet
   generalize txt (turnB P.bits) = TU at *
   generalize txt (Bm.stL (turnB P.bits) 0 true (firstD P.n)) = TS2 at *
   go_wp2_with fail
   go_region_held3 (fun W => (convert 107 9 (.slice (some ⟨g, 0, none⟩) k cap)).run Tryz.prog W = .ok (.string TU) W)
    (first | exact hcv0 | exact HCv.out _ (by assumption) | exact HCv.out _ ((Below.refl _ _).drew) | exact HCv.out _ ((Below.refl _ _).drew.drew) | assumption)
    (first
     | (go_at_call 32; refine (CF.out _ (by first | exact (Below.refl _ _).drew | exact (Below.refl _ _).drew.drew | exact Below.refl _ _)).mono ?_; rintro e w1 ⟨rfl, rfl⟩)
     | (go_at_call 63; refine (CS.out _).mono ?_; rintro e w1 ⟨rfl, hb1'⟩; have hb1 : Below wr.heap.size wr w1 := (by first | exact Fr.below_predrew hb1' | exact Fr.below_predrew (Fr.below_predrew hb1') | exact hb1'); have hh1 := HCv.out w1 hb1))
   have HB1 := Lib.hid (HBW.out.trans (hb1.mono HBW.out.size))
   have e0 : w1.cell? ⟨s, 0, none⟩ = some (.pointer (some ⟨h, 0, none⟩)) := (HB1.out.cell (p := ⟨s, 0, none⟩) hsl).trans c0
   have e1 : w1.cell? ⟨h, 0, none⟩ = some (.pointer (some ⟨j, 0, none⟩)) := (HB1.out.cell (p := ⟨h, 0, none⟩) hhl).trans ch
   have e2 : w1.cell? ⟨j, 0, none⟩ = some (.pointer (some ⟨p, 0, none⟩)) := (HB1.out.cell (p := ⟨j, 0, none⟩) hjl).trans cj
   clear hb1 hb1' hh1 hcv0 c0 c2 ch cj CS CF
   go_wp2_with fail
   refine (CB.out _ HB1.out).mono ?_
   rintro e w2 ⟨rfl, rfl⟩
   go_wp2_with fail
   refine (CRu.out _).mono ?_
   rintro e w3 ⟨v, rfl, hv, hb3⟩
   have HV := Lib.hid hv
   have HB3 := Lib.hid (HB1.out.trans (hb3.mono HB1.out.size))
   clear hv hb3
   go_wp2
   go_ret
   exact ⟨_, rfl, Bm.own_lessX HV.out HB1.out.size, HB3.out⟩
end
end Go.Proofs.YthambopnmhkeeaaGreat
/- What state tells: a store's state. -/
namespace Go.Proofs.YthambopnmhkeeaaGreat
open Go.RowKit
def stA (t : Int -> ByteArray) (R : List (Nat × Nat)) : List UInt8 := R.flatMap fun x => (List.range' x.1 x.2).flatMap fun i => TS.chunk t i
def stB (t : Int -> ByteArray) (a k : Nat) : List UInt8 := (List.range' a k).flatMap fun i => TS.chunk t i
theorem stB_succ (t : Int -> ByteArray) (a k : Nat) : stB t a (k + 1) = stB t a k ++ TS.chunk t (a + k) := by
 unfold stB
 rw [List.range'_concat, List.flatMap_append]
 simp
theorem stA_succ (t : Int -> ByteArray) (R : List (Nat × Nat)) (q : Nat) (h : q < R.length) : stA t (R.take (q + 1)) = stA t (R.take q) ++ stB t R[q].1 R[q].2 := by
 unfold stA stB
 rw [List.take_succ_eq_append_getElem h, List.flatMap_append]
 simp
theorem stA_all (P : TS) (ok : P.Ok) : stA P.t (Bm.rs (Bm.stL (turnB P.bits) 0 true (firstD P.n)) P.n) = P.stateL := by
 rw [TS.state_used, <- ok.used_runs]
 unfold stA
 rw [List.flatMap_assoc]
def cellsB (l : List UInt8) : List Value := l.map fun b => Value.int .u8 b.toNat
theorem cellsB_append (l m : List UInt8) : cellsB (l ++ m) = cellsB l ++ cellsB m := List.map_append ..
def BRow (B : Nat) (w : World) (v : Value) (l : List UInt8) : Prop := w.ownsRow B 5 1 v l.length (cellsB l)
theorem strOf_map (l : List UInt8) : strOfNums (l.map fun b => (b.toNat : Int)) = txt l := by
 unfold strOfNums txt
 rw [List.map_map]
 congr 2
 conv => rhs; rw [<- List.map_id l]
 apply List.map_congr_left
 intro b _
 simp
theorem BRow.text {B : Nat} {w : World} {v : Value} {l : List UInt8} (h : BRow B w v l) : (convert 107 9 v).run Tryz.prog w = .ok (.string (txt l)) w := by
 rcases h.2 with ⟨rfl, h0⟩ | ⟨g, cap, cur, rfl, _⟩
 ·obtain rfl : l = [] := List.eq_nil_of_length_eq_zero h0
  exact run_convert_bytes_nil w 107 5 Tryz.underlying107 Tryz.underlying5 0 0 9 Tryz.underlying9
 ·rw [<- strOf_map]
  refine run_convert_bytes_arg w 107 5 Tryz.underlying107 Tryz.underlying5 g 0 l.length cap _ (by simp) ?_ 9 Tryz.underlying9
  intro i hi
  rw [Nat.zero_add, World.ownsRow.cellAt h i (by omega)]
  simp [cellsB, List.getD, hi]
theorem BRow.add {B : Nat} {w : World} {v : Value} {l m : List UInt8} {n : Nat} (h : w.ownsRow B 5 1 v n (cellsB l ++ cellsB m)) (hn : n = l.length + m.length) : BRow B w v (l ++ m) := by
 subst hn; unfold BRow; rw [List.length_append, cellsB_append]; exact h
theorem bytes_two {w : World} {x y : Value} {g : Nat} (hg : w.heap.size = g) : ∀ (j : Nat) (u : Value), [x, y][j]? = some u -> (w.alloc (.cells #[x, y] 5)).cell? ((⟨g, 0, none⟩ : Addr).add j) = some u := by
 subst hg
 intro j u hu
 have hadd : (⟨w.heap.size, 0, none⟩ : Addr).add j = ⟨w.heap.size, j, none⟩ := by unfold Addr.add; split <;> simp_all
 rw [hadd, cell_at (heap_alloc_new ..)]
 simpa using hu
section
variable {S SH SC S1 T : Nat -> Prop} {w w1 w2 w' : World} {s h c p n N N' mi mi' : Nat} {P P' : TS}
theorem run_data (ok : P.Ok) {q : Nat} (hq : q < (Bm.rs (Bm.stL (turnB P.bits) 0 true (firstD P.n)) P.n).length) {i : Nat} (h1 : (Bm.rs (Bm.stL (turnB P.bits) 0 true (firstD P.n)) P.n)[q].1 <= i) (h2 : i < (Bm.rs (Bm.stL (turnB P.bits) 0 true (firstD P.n)) P.n)[q].1 + (Bm.rs (Bm.stL (turnB P.bits) 0 true (firstD P.n)) P.n)[q].2) : firstD P.n <= i /\ i < P.n := by
 have hm : i ∈ P.usedL := by
  rw [<- ok.used_runs]
  exact List.mem_flatMap.2 ⟨_, List.getElem_mem hq, List.mem_range'.2 ⟨i - (Bm.rs (Bm.stL (turnB P.bits) 0 true (firstD P.n)) P.n)[q].1, by omega, by omega⟩⟩
 unfold TS.usedL at hm
 rw [List.mem_filter, List.mem_range] at hm
 obtain ⟨a, b⟩ := hm
 simp only [Bool.and_eq_true, decide_eq_true_eq] at b
 exact ⟨b.1, a⟩
theorem run_end (ok : P.Ok) {q : Nat} (hq : q < (Bm.rs (Bm.stL (turnB P.bits) 0 true (firstD P.n)) P.n).length) : (Bm.rs (Bm.stL (turnB P.bits) 0 true (firstD P.n)) P.n)[q].1 <= 8192 /\ (Bm.rs (Bm.stL (turnB P.bits) 0 true (firstD P.n)) P.n)[q].1 + (Bm.rs (Bm.stL (turnB P.bits) 0 true (firstD P.n)) P.n)[q].2 <= 8192 := by
 have h1 : ∀ (R : List (Nat × Nat)) (e : Int), Bm.RO (Bm.stL (turnB P.bits) 0 true (firstD P.n)) P.n e R -> ∀ x ∈ R, 1 <= x.2 := by
  intro R
  induction R with
  | nil => intro e _ x hx; cases hx
  | cons y R ih =>
   intro e h x hx
   rcases List.mem_cons.1 hx with rfl | hx
   ·exact h.2.1
   ·exact ih _ h.2.2.2.2.2.2.2 x hx
 have h2 := h1 _ _ (Bm.rs_ok _ _) _ (List.getElem_mem hq)
 have h3 := (run_data ok hq (i := (Bm.rs (Bm.stL (turnB P.bits) 0 true (firstD P.n)) P.n)[q].1 + (Bm.rs (Bm.stL (turnB P.bits) 0 true (firstD P.n)) P.n)[q].2 - 1) (by omega) (by omega)).2
 have := ok.n1
 omega
def cntR (R : List (Nat × Nat)) : Nat := (R.flatMap fun x => List.range' x.1 x.2).length
theorem cntR_succ (R : List (Nat × Nat)) (q : Nat) (h : q < R.length) : cntR (R.take (q + 1)) = cntR (R.take q) + R[q].2 := by
 unfold cntR
 rw [List.take_succ_eq_append_getElem h, List.flatMap_append, List.length_append]
 simp
theorem cntR_le (R : List (Nat × Nat)) (q : Nat) : cntR (R.take q) <= cntR R := by
 have h := List.take_append_drop q R
 have e : cntR R = cntR (R.take q) + cntR (R.drop q) := by
  conv => lhs; rw [<- h]
  unfold cntR
  rw [List.flatMap_append, List.length_append]
 omega
theorem cntR_all (ok : P.Ok) : cntR (Bm.rs (Bm.stL (turnB P.bits) 0 true (firstD P.n)) P.n) <= 4096 := by
 unfold cntR
 rw [ok.used_runs]
 unfold TS.usedL
 have := List.length_filter_le (fun i => decide (firstD P.n <= i) && Bm.bt P.bits i) (List.range P.n)
 rw [List.length_range] at this
 exact Nat.le_trans this ok.n1
theorem stA_len (t : Int -> ByteArray) (ht : ∀ i, (t i).size = 256) (R : List (Nat × Nat)) : (stA t R).length = 258 * cntR R := by
 unfold stA cntR
 induction R with
 | nil => rfl
 | cons x r ih =>
  rw [List.flatMap_cons, List.flatMap_cons, List.length_append, List.length_append, ih, (TS.flat_at (List.range' x.1 x.2) (TS.chunk t) (TS.chunk_len t ht)).1]
  omega
theorem stB_len (t : Int -> ByteArray) (ht : ∀ i, (t i).size = 256) (a k : Nat) : (stB t a k).length = 258 * k := by
 unfold stB
 rw [(TS.flat_at (List.range' a k) (TS.chunk t) (TS.chunk_len t ht)).1, List.length_range']
theorem BRow.fresh {B : Nat} {w : World} (hB : B <= w.heap.size) : BRow B (w.alloc (.cells #[] 5)) (.slice (some ⟨w.heap.size, 0, none⟩) 0 0) [] :=
 ⟨rfl, .inr ⟨w.heap.size, 0, #[], rfl, hB, heap_alloc_new .., Nat.le_refl _, by unfold maxLen; omega, rfl, rfl⟩⟩
end
end Go.Proofs.YthambopnmhkeeaaGreat
/- A store, a row of bytes of one's own, and the extents that were told, side by side: what reading from the store and appending to the row leave. -/
namespace Go.Proofs.YthambopnmhkeeaaGreat
open Go.RowKit
theorem own_blockS {w w' : World} {B : Nat} {e : TypeId} {k n : Nat} {v : Value} {xs : List Value} (h : w.ownsRow B e k v n xs) (hk : ∀ q, v.ownBlock = some q -> w'.heap[q]? = w.heap[q]?) : w'.ownsRow B e k v n xs := by
 refine ⟨h.1, ?_⟩
 rcases h.2 with hn | ⟨g, cap, cur, rfl, hb, hgg, rest⟩
 ·exact .inl hn
 ·exact .inr ⟨g, cap, cur, rfl, hb, (hk g rfl).trans hgg, rest⟩
theorem own_apartS {w : World} {B B' : Nat} {e t : TypeId} {k k' n n' : Nat} {r r' : Value} {xs xs' : List Value} (h : w.ownsRow B e k r n xs) (h' : w.ownsRow B' t k' r' n' xs') (hne : e ≠ t) : ∀ q, r.ownBlock = some q -> r'.ownBlock ≠ some q := by
 intro q hq hq'
 rcases h.2 with ⟨rfl, _⟩ | ⟨g, cap, cur, rfl, _, hg, _⟩
 ·cases hq
 ·rcases h'.2 with ⟨rfl, _⟩ | ⟨g', cap', cur', rfl, _, hg', _⟩
  ·cases hq'
  ·simp [Value.ownBlock] at hq hq'
   subst hq; subst hq'
   rw [hg] at hg'
   simp at hg'
   exact hne hg'.2
structure SB (S : Nat -> Prop) (w wr : World) (s p : Nat) (P : TS) (N mi : Nat) (bv v : Value) (L : List UInt8) (R : List (Nat × Nat)) (S' : Nat -> Prop) : Prop where
 new : ∀ k, S' k -> S k \/ w.heap.size <= k
 st : St S' wr s p P N mi
 only : Only S w wr
 row : BRow w.heap.size wr bv L
 rs : ∀ k, bv.ownBlock = some k -> ¬ S' k
 ex : Bm.OwnX w.heap.size wr v R
 es : ∀ k, v.ownBlock = some k -> ¬ S' k
def Sx (S : Nat -> Prop) (w wr : World) (s p : Nat) (P : TS) (N mi : Nat) (bv v : Value) (L : List UInt8) (R : List (Nat × Nat)) : Prop := ∃ S', SB S w wr s p P N mi bv v L R S'
section
variable {S : Nat -> Prop} {w wr W w' : World} {s p N mi mi' : Nat} {P : TS} {bv bv' v : Value} {L L' : List UInt8} {R : List (Nat × Nat)}
theorem Sx.start (m : St S w s p P N mi) (hb : Below w.heap.size w wr) (hrow : BRow w.heap.size wr bv L) (hex : Bm.OwnX w.heap.size wr v R) : Sx S w wr s p P N mi bv v L R :=
 ⟨S, fun _ => .inl, m.below hb, Only.of_below _ hb (Nat.le_refl _), hrow, fun k hk hs => by have := (hrow.lt k hk).1; have := m.slt k hs; omega, hex, fun k hk hs => by have := (World.ownsRow.lt hex k hk).1; have := m.slt k hs; omega⟩
theorem Sx.left (h : Sx S w wr s p P N mi bv v L R) : StL S w wr s p P N mi := by obtain ⟨S', h⟩ := h; exact ⟨S', h.new, h.st, h.only⟩
theorem Sx.exts (h : Sx S w wr s p P N mi bv v L R) : Bm.OwnX w.heap.size wr v R := by obtain ⟨S', h⟩ := h; exact h.ex
theorem Sx.bytes (h : Sx S w wr s p P N mi bv v L R) : BRow w.heap.size wr bv L := by obtain ⟨S', h⟩ := h; exact h.row
theorem Sx.size (h : Sx S w wr s p P N mi bv v L R) : w.heap.size <= wr.heap.size := by obtain ⟨S', h⟩ := h; exact h.only.size
theorem Sx.more (h : Sx S w wr s p P N mi bv v L R) (hm : mi <= mi') : Sx S w wr s p P N mi' bv v L R := by
 obtain ⟨S', a, b, c, d, e, f, g⟩ := h; exact ⟨S', a, b.more hm, c, d, e, f, g⟩
theorem Sx.read (h : Sx S w wr s p P N mi bv v L R) (i : Int) (hi : -9223372036854775808 <= i /\ i <= 9223372036854775807) (hm : mi < 1000000) :
  Calls Tryz.prog 41 #[.pointer (some ⟨s, 0, none⟩), .int .i64 i] wr fun e w' => e = .returned (.tuple #[.string (P.read i).1, .int .i64 (P.read i).2]) /\ Hid (Sx S w w' s p P N (mi + 1) bv v L R) := by
 obtain ⟨S', h⟩ := h
 refine (sread_any h.st i hi hm).mono ?_
 rintro e w' ⟨he, hl⟩
 refine ⟨he, ?_⟩
 obtain ⟨S2, h1, h2, h3⟩ := hl.out
 have hb : ∀ k, bv.ownBlock = some k -> w'.heap[k]? = wr.heap[k]? := fun k hk => h3.block k (h.row.lt k hk).2 (h.rs k hk)
 have hv : ∀ k, v.ownBlock = some k -> w'.heap[k]? = wr.heap[k]? := fun k hk => h3.block k (World.ownsRow.lt h.ex k hk).2 (h.es k hk)
 show Sx _ _ _ _ _ _ _ _ _ _ _ _
 refine ⟨S2, fun k hk => ?_, h2, h.only.trans h3 (fun i hi' h1' => ?_), own_blockS h.row hb, fun k hk hs => ?_, own_blockS h.ex hv, fun k hk hs => ?_⟩
 ·rcases h1 k hk with a | a
  ·exact h.new k a
  ·exact .inr (Nat.le_trans h.only.size a)
 ·rcases h.new i h1' with a | a
  ·exact a
  ·omega
 ·rcases h1 k hs with a | a
  ·exact h.rs k hk a
  ·have := (h.row.lt k hk).2; omega
 ·rcases h1 k hs with a | a
  ·exact h.es k hk a
  ·have := (World.ownsRow.lt h.ex k hk).2; omega
theorem Sx.below (h : Sx S w wr s p P N mi bv v L R) (hb : Below wr.heap.size wr W) : Sx S w W s p P N mi bv v L R := by
 obtain ⟨S', h⟩ := h
 exact ⟨S', h.new, h.st.below hb, h.only.trans (Only.of_below (fun _ => False) hb (Nat.le_refl _)) (fun _ _ f => f.elim), Fr.own_below h.row hb, h.rs, Fr.own_below h.ex hb, h.es⟩
theorem Sx.push (h : Sx S w wr s p P N mi bv v L R) (hW : Below wr.heap.size wr W) (hrow : BRow w.heap.size w' bv' L') (hg : W.grownBy w' bv.ownBlock) (hk : ∀ k, bv'.ownBlock = some k -> bv.ownBlock = some k \/ W.heap.size <= k) : Sx S w w' s p P N mi bv' v L' R := by
 obtain ⟨S', h⟩ := h
 have ho : Only (fun k => bv.ownBlock = some k) wr w' :=
  ⟨hg.os.trans hW.os, hg.tape.trans hW.tape, hg.output.trans hW.output, Nat.le_trans hW.size hg.size, fun k hk hs => (hg.block k (Nat.lt_of_lt_of_le hk hW.size) (fun e => hs e.symm)).trans (hW.block k hk)⟩
 have hev : ∀ k, v.ownBlock = some k -> w'.heap[k]? = wr.heap[k]? := fun k hk => ho.block k (World.ownsRow.lt h.ex k hk).2 (fun e => own_apartS h.ex h.row (by decide) k hk e)
 refine ⟨S', h.new, h.st.kept ho (fun k hk e => h.rs k e hk), h.only.trans ho (fun i hi e => ?_), hrow, fun k hk' hs => ?_, own_blockS h.ex hev, h.es⟩
 ·have := (h.row.lt i e).1; omega
 ·rcases hk k hk' with a | a
  ·exact h.rs k a hs
  ·have := h.st.slt k hs; have := hW.size; omega
end
section
variable {P : Program} (w : World)
theorem run_append_str_where (base : Nat) (t u ty e : TypeId) (i : TypeInfo) (ht : P.underlying t = some (.slice e)) (hu : P.underlying u = some .string) (hi : P.info? e = some i) (hz : i.zero = some (.int .u8 0))
  (hsize : i.size = 1) (hby : i.bytes = 1)
  (v : Value) (n : Nat) (xs : List Value) (hown : w.ownsRow base e 1 v n xs) (s : ByteArray)
  (h63 : n + s.size <= maxLen) (hbytes : n + s.size <= 140737488355328) (hbase : base <= w.heap.size) :
  ∃ v' w', (Builtin.append_ #[t, u] ty #[v, .string s]).run P w = .ok v' w' /\ w'.ownsRow base e 1 v' (n + s.size) (xs ++ Lib.strCells s) /\ w.grownBy w' v.ownBlock /\
   (∀ k, v'.ownBlock = some k -> v.ownBlock = some k \/ w.heap.size <= k) := by
 obtain ⟨v', w', hr, h2, h3, _⟩ := Lib.run_append_own_string (P := P) w base t u ty e i ht hu hi hz hsize hby v n xs hown s h63 hbytes hbase
 refine ⟨v', w', hr, h2, h3, ?_⟩
 rcases hown.2 with ⟨rfl, rfl⟩ | ⟨g, cap, cur, rfl, hb, hg, hnc, hcm, hcs, htk⟩
 ·have hx : xs = [] := List.eq_nil_of_length_eq_zero (by simpa using hown.1)
  subst hx
  obtain ⟨v2, w2, hr', h2', _, _⟩ := Lib.run_append_own_string (P := P) w w.heap.size t u ty e i ht hu hi hz hsize hby (.slice none 0 0) 0 [] (World.ownsRow_nil w _ e 1) s h63 hbytes (Nat.le_refl _)
  rw [hr] at hr'
  cases hr'
  intro k hk
  exact .inr (h2'.lt k hk).1
 ·by_cases hroom : n + s.size <= cap
  ·have hr' := Lib.run_append_room_string (P := P) w t u ty e i ht hu hi hsize g n cap cur hg s hroom (by omega)
   rw [hr] at hr'
   cases hr'
   intro k hk
   exact .inl hk
  ·have hsmall : n + s.size <= 9223372036854775807 := by simp only [maxLen] at h63; omega
   have hxl : xs.length = n := by simpa using hown.1
   have hr' := Lib.run_append_grow_string (P := P) w t u ty e i (.int .u8 0) ht hu hi hz ⟨g, 0, none⟩ n cap xs (by rw [hsize]; omega) (hown.cells (g := g) rfl) s (by omega) (by omega) (by rw [hby]; exact growslice_fits (by omega) (by omega))
   rw [hr] at hr'
   cases hr'
   intro k hk
   simp [Value.ownBlock] at hk
   exact .inr (by omega)
theorem wpList_append_str_where {ops : Array Oper} {rest : List Oper} {o : Oper} {a : Act} {Q : Exit -> Act -> World -> Prop} (hgd : o.guard = none) (sl x : Operand) (t u : TypeId)
  (ho : o.op = .call { callee := .builtin .append, args := #[sl, x], argTypes := #[t, u] })
  (base : Nat) (e : TypeId) (i : TypeInfo) (ht : P.underlying t = some (.slice e)) (hu : P.underlying u = some .string) (hi : P.info? e = some i) (hz : i.zero = some (.int .u8 0))
  (hsize : i.size = 1) (hby : i.bytes = 1)
  (v : Value) (n : Nat) (xs : List Value) (hs : a.eval sl = v) (hown : w.ownsRow base e 1 v n xs) (s : ByteArray) (hx : a.eval x = .string s)
  (h63 : n + s.size <= maxLen) (hbytes : n + s.size <= 140737488355328) (hbase : base <= w.heap.size)
  (h : ∀ v' w', w'.ownsRow base e 1 v' (n + s.size) (xs ++ Lib.strCells s) -> w.grownBy w' v.ownBlock -> (∀ k, v'.ownBlock = some k -> v.ownBlock = some k \/ w.heap.size <= k) -> wpList P ops Q rest (a.put o.dst v') w') : wpList P ops Q (o :: rest) a w := by
 refine wpList_plain hgd fun K hK => ?_
 obtain ⟨v', w', hr, h2, h3, h4⟩ := run_append_str_where (P := P) w base t u o.type e i ht hu hi hz hsize hby v n xs hown s h63 hbytes hbase
 unfold Oper.wp execOp
 simp only [ho, resolve, invoke, builtin, Sem.run_bind, Sem.run_pure, Result.andThen_ok, List.map_toArray, List.map_cons, List.map_nil, hs, hx, hr]
 exact hK _ _ (h v' w' h2 h3 h4)
end
end Go.Proofs.YthambopnmhkeeaaGreat
/- What state tells: a store's state. -/
set_option maxRecDepth 100000
namespace Go.Proofs.YthambopnmhkeeaaGreat
open Go.RowKit
section
variable {S : Nat -> Prop} {w w' : World} {s p N mi : Nat} {P : TS}
theorem u8_nat (n : Nat) : IntKind.u8.wrap (n : Int) = ((UInt8.ofNat n).toNat : Int) := by
 rw [IntKind.wrap_u8]
 simp
def ch2 (i : Nat) : List UInt8 := [UInt8.ofNat i, UInt8.ofNat (i / 256)]
theorem ch2_cells (a k : Nat) (h : a + k <= 8192) : cellsB (ch2 (a + k)) = [.int .u8 (((a : Int) + (k : Int)) % 256), .int .u8 (((a : Int) + (k : Int)) / 256)] := by
 have e : cellsB (ch2 (a + k)) = [.int .u8 (IntKind.u8.wrap ((a + k : Nat) : Int)), .int .u8 (IntKind.u8.wrap (((a + k) / 256 : Nat) : Int))] := by
  rw [u8_nat, u8_nat]
  rfl
 rw [e, IntKind.wrap_u8, IntWalk.u8_in _ (by omega)]
 have e1 : ((a + k : Nat) : Int) = (a : Int) + (k : Int) := Int.natCast_add ..
 have e2 : (((a + k) / 256 : Nat) : Int) = ((a : Int) + (k : Int)) / 256 := by omega
 rw [e2, e1]
theorem ch2_chunk (t : Int -> ByteArray) (i : Nat) : ch2 i ++ (t (i : Int)).data.toList = TS.chunk t i := rfl
theorem exts_cell {W : World} {B g q rl vc : Nat} {R : List (Nat × Nat)} (h : Bm.OwnX B W (.slice (some ⟨g, 0, none⟩) rl vc) R) (hq : q < R.length) : W.cell? ⟨g, q * 2, none⟩ = some (.int .i64 (R[q].1 : Int)) /\ W.cell? ⟨g, q * 2 + 1, none⟩ = some (.int .i64 (R[q].2 : Int)) := by
 obtain ⟨g', c, e, _, _, _, h1, _⟩ := h.here (by omega)
 obtain ⟨⟨rfl, -⟩, -, -⟩ : (g = g' /\ True) /\ True /\ True := by
  simp at e
  exact ⟨⟨e.1, trivial⟩, trivial, trivial⟩
 have := h1 q hq
 rw [Nat.zero_add] at this
 exact this
theorem runs_len {P : TS} (ok : P.Ok) : (Bm.rs (Bm.stL (turnB P.bits) 0 true (firstD P.n)) P.n).length <= 4096 := by
 have h1 : ∀ (R : List (Nat × Nat)) (e : Int), Bm.RO (Bm.stL (turnB P.bits) 0 true (firstD P.n)) P.n e R -> R.length <= cntR R := by
  intro R
  induction R with
  | nil => intro e _; exact Nat.zero_le _
  | cons y R ih =>
   intro e h
   have h2 := ih _ h.2.2.2.2.2.2.2
   have h3 := h.2.1
   unfold cntR at h2 ⊢
   rw [List.flatMap_cons, List.length_append, List.length_range', List.length_cons]
   omega
 exact Nat.le_trans (h1 _ _ (Bm.rs_ok _ _)) (cntR_all ok)
theorem own_downS {w : World} {base base' : Nat} {e : TypeId} {size : Nat} {v : Value} {n : Nat} {xs : List Value} (h : w.ownsRow base e size v n xs) (hb : base' <= base) : w.ownsRow base' e size v n xs := by
 refine ⟨h.1, ?_⟩
 rcases h.2 with hn | ⟨g, cap, cur, rfl, hbg, rest⟩
 ·exact .inl hn
 ·exact .inr ⟨g, cap, cur, rfl, Nat.le_trans hb hbg, rest⟩
set_option maxHeartbeats 4000000 in
theorem state_any (m : St S w s p P N mi) (hm : mi + 4096 < 1000000) :
  Calls Tryz.prog 35 #[.pointer (some ⟨s, 0, none⟩)] w fun e w' => e = .returned (.string (txt P.stateL)) /\ Hid (StL S w w' s p P N (mi + 4096)) := by
 have HU : Hid (∀ W, Below w.heap.size w W -> Calls Tryz.prog 22 #[.pointer (some ⟨s, 0, none⟩)] W fun e w' => ∃ v, e = .returned v /\ Hid (Bm.OwnX W.heap.size w' v (Bm.rs (Bm.stL (turnB P.bits) 0 true (firstD P.n)) P.n)) /\ Hid (Below W.heap.size W w')) := fun W hW => sused_any (m.below hW)
 have ok := m.ok
 have HAll := Lib.hid (stA_all P ok)
 have HCn := Lib.hid (cntR_all ok)
 have HLen := Lib.hid (runs_len ok)
 have HRD : Hid (∀ q (hq : q < (Bm.rs (Bm.stL (turnB P.bits) 0 true (firstD P.n)) P.n).length) (i : Nat), (Bm.rs (Bm.stL (turnB P.bits) 0 true (firstD P.n)) P.n)[q].1 <= i -> i < (Bm.rs (Bm.stL (turnB P.bits) 0 true (firstD P.n)) P.n)[q].1 + (Bm.rs (Bm.stL (turnB P.bits) 0 true (firstD P.n)) P.n)[q].2 -> firstD P.n <= i /\ i < P.n) := fun q hq i h1 h2 => run_data ok hq h1 h2
 have HRE : Hid (∀ q (hq : q < (Bm.rs (Bm.stL (turnB P.bits) 0 true (firstD P.n)) P.n).length), _) := fun q hq => run_end ok hq
 have HT : Hid (∀ i, (P.t i).size = 256) := ok.st
 have HM := Lib.hid m
 have hslt := m.slt
 obtain ⟨i0, hi, hz0, hz1, hz2⟩ := info_parts Tryz.infoB
 have HZ2 := Lib.hid hz2
 have hn4 := ok.n1
 clear hz2 ok m
 obtain ⟨R, hR⟩ : ∃ R, Bm.rs (Bm.stL (turnB P.bits) 0 true (firstD P.n)) P.n = R := ⟨_, rfl⟩
 rw [hR] at HU HAll HCn HRD HRE HLen
 clear hR
 obtain ⟨X, hX⟩ : ∃ X, w.alloc (.cells #[] 5) = X := ⟨_, rfl⟩
 have hbX : Below w.heap.size w X := by rw [<- hX]; exact (Below.refl _ _).alloc (Nat.le_refl _) _
 have HB0 : Hid (BRow w.heap.size X (.slice (some ⟨w.heap.size, 0, none⟩) 0 0) []) := by show BRow _ _ _ _; rw [<- hX]; exact BRow.fresh (Nat.le_refl _)
 have HX := Lib.hid hX
 have HU1 := Lib.hid (HU.out X hbX)
 have HBX := Lib.hid hbX
 clear hX hbX HU
 go_enter Tryz.func35, Tryz.ntmps35
 go_wp2_with fail
 rw [HX.out]
 refine HU1.out.mono ?_
 rintro e w1 ⟨v, rfl, HO1, HB1⟩
 obtain ⟨vo, vc, hv⟩ := HO1.out.form
 subst hv
 have HBw : Hid (Below w.heap.size w w1) := HBX.out.trans (HB1.out.mono HBX.out.size)
 have HR0 : Hid (BRow w.heap.size w1 (.slice (some ⟨w.heap.size, 0, none⟩) 0 0) (stA P.t (R.take 0))) := by
  have := HB0.out
  unfold BRow at this ⊢
  exact Fr.own_below this HB1.out
 have HS0 : Hid (Sx S w w1 s p P N (mi + cntR (R.take 0)) (.slice (some ⟨w.heap.size, 0, none⟩) 0 0) (.slice vo R.length vc) (stA P.t (R.take 0)) R) := by
  show Sx _ _ _ _ _ _ _ _ _ _ _ _
  exact Sx.start HM.out HBw.out HR0.out (by have := HO1.out; unfold Bm.OwnX at this ⊢; exact own_downS this HBX.out.size)
 obtain ⟨rl, hrl⟩ : ∃ rl, R.length = rl := ⟨_, rfl⟩
 have HRL := Lib.hid hrl
 rw [hrl] at HS0 ⊢
 clear hrl HB0 HU1 HR0 HO1 HB1 HBw HX HBX HM
 go_wp2_with fail
 go_loopw [3, 5] (fun bv i wr => ∃ q : Nat, q <= rl /\ i = .int .i64 (q : Int) /\ Hid (Sx S w wr s p P N (mi + cntR (R.take q)) bv (.slice vo rl vc) (stA P.t (R.take q)) R)) (fun _ i _ => rl - (intOf i).toNat)
 case atStart => exact ⟨0, Nat.zero_le _, rfl, HS0⟩
 case round =>
  obtain ⟨q, hq, rfl, HS⟩ := hrel
  by_cases hql : q < rl
  ·have z0 : ((q : Int) < (rl : Int)) := by omega
   have hqR : q < R.length := by rw [HRL.out]; exact hql
   obtain ⟨g, hg⟩ : ∃ g, vo = some ⟨g, 0, none⟩ := by
    obtain ⟨g, c, e, _⟩ := HS.out.exts.here (by omega)
    simp at e
    exact ⟨g, e.1⟩
   subst hg
   have HE : Hid (∀ W, Bm.OwnX w.heap.size W (.slice (some ⟨g, 0, none⟩) rl vc) R -> W.cell? ⟨g, q * 2, none⟩ = some (.int .i64 (R[q].1 : Int)) /\ W.cell? ⟨g, q * 2 + 1, none⟩ = some (.int .i64 (R[q].2 : Int))) := fun W hW => exts_cell hW hqR
   have HSA : Hid (stA P.t (R.take (q + 1)) = stA P.t (R.take q) ++ stB P.t R[q].1 R[q].2) := stA_succ _ _ _ hqR
   have HCT : Hid (cntR (R.take (q + 1)) = cntR (R.take q) + R[q].2) := cntR_succ _ _ hqR
   have HCL : Hid (cntR (R.take (q + 1)) <= 4096) := Nat.le_trans (cntR_le _ _) HCn.out
   have HD := Lib.hid (HRD.out q hqR)
   have hre := HRE.out q hqR
   clear hq
   generalize R[q] = x at *
   obtain ⟨a, c⟩ := x
   dsimp only at *
   obtain ⟨c0, c1⟩ := HE.out _ HS.out.exts
   have w1' : IntKind.i64.wrap ((a : Int) + (c : Int)) = (a : Int) + (c : Int) := IntWalk.i64_in _ (by omega)
   have wq : IntKind.i64.wrap ((q : Int) + 1) = (q : Int) + 1 := IntWalk.i64_in _ (by have := HRL.out; have := HLen.out; omega)
   have HHR : Hid (∀ k, k < c -> P.read ((a : Int) + (k : Int)) = (P.t ((a + k : Nat) : Int), 0)) := fun k hk => by
    have h1 := HD.out (a + k) (by omega) (by omega)
    unfold TS.read
    rw [if_neg]
    ·rw [Int.natCast_add]
    ·rw [Bool.not_eq_false]
     unfold TS.data
     simp
     omega
   clear HD
   go_wp2_with fail
   go_loopw [3, 6] (fun bv i W => ∃ k : Nat, k <= c /\ i = .int .i64 ((a : Int) + (k : Int)) /\ Hid (Sx S w W s p P N (mi + cntR (R.take q) + k) bv (.slice (some ⟨g, 0, none⟩) rl vc) (stA P.t (R.take q) ++ stB P.t a k) R)) (fun _ i _ => (a + c) - (intOf i).toNat)
   case atStart =>
    refine ⟨0, Nat.zero_le _, by simp, ?_⟩
    have := HS.out
    simpa [stB] using HS
   case round =>
    obtain ⟨k, hk, rfl, HK⟩ := hrel
    obtain ⟨c2, c3⟩ := HE.out _ HK.out.exts
    by_cases hkc : k < c
    ·have z1 : ((a : Int) + (k : Int) < (a : Int) + (c : Int)) := by omega
     have wk : IntKind.i64.wrap ((a : Int) + (k : Int) + 1) = (a : Int) + (k : Int) + 1 := IntWalk.i64_in _ (by omega)
     go_wp2_with fail
     go_region_held3 (fun W : World => W.cell? ⟨g, q * 2, none⟩ = some (.int .i64 (a : Int)) /\ W.cell? ⟨g, q * 2 + 1, none⟩ = some (.int .i64 (c : Int)))
      (first | exact ⟨c2, c3⟩ | assumption)
      (fail)
     have HRd : Hid (Calls Tryz.prog 41 #[.pointer (some ⟨s, 0, none⟩), .int .i64 ((a : Int) + (k : Int))] wr.drew fun e w' => e = .returned (.tuple #[.string (P.t ((a + k : Nat) : Int)), .int .i64 0]) /\ Hid (Sx S w w' s p P N (mi + cntR (R.take q) + k + 1) u3 (.slice (some ⟨g, 0, none⟩) rl vc) (stA P.t (R.take q) ++ stB P.t a k) R)) := by
      have := (HK.out.below (Below.refl _ _).drew).read ((a : Int) + (k : Int)) (by omega) (by have := HCL.out; have := HCT.out; omega)
      rw [HHR.out k hkc] at this
      exact this
     go_wp2_with fail
     refine HRd.out.mono ?_
     rintro e w2 ⟨rfl, HK2⟩
     have HLL : Hid ((stA P.t (R.take q) ++ stB P.t a k).length = 258 * (cntR (R.take q) + k)) := by
      show _ = _
      rw [List.length_append, stA_len _ HT.out, stB_len _ HT.out]; omega
     have wd : ((a : Int) + (k : Int)).tdiv 256 = (((a + k) / 256 : Nat) : Int) := by rw [Int.tdiv_eq_ediv_of_nonneg (by omega)]; omega
     have wd2 : IntKind.i64.wrap (((a + k) / 256 : Nat) : Int) = (((a + k) / 256 : Nat) : Int) := IntWalk.i64_in _ (by omega)
     have hw2 := HK2.out.size
     have HCh := Lib.hid (ch2_cells a k (by omega))
     have HNx : Hid (stA P.t (R.take q) ++ stB P.t a k ++ ch2 (a + k) ++ (P.t ((a + k : Nat) : Int)).data.toList = stA P.t (R.take q) ++ stB P.t a (k + 1)) := by
      show _ = _
      rw [stB_succ, <- ch2_chunk]
      simp only [List.append_assoc]
     have HTk := Lib.hid (HT.out ((a + k : Nat) : Int))
     clear HRd
     generalize P.t ((a + k : Nat) : Int) = T at *
     obtain ⟨LN, hLN⟩ : ∃ LN, stA P.t (R.take q) ++ stB P.t a (k + 1) = LN := ⟨_, rfl⟩
     rw [hLN] at HNx
     have HLN := Lib.hid hLN
     clear hLN
     generalize stA P.t (R.take q) ++ stB P.t a k = L0 at *
     have HL1 : Hid (cellsB (L0 ++ ch2 (a + k)) = cellsB L0 ++ [.int .u8 (((a : Int) + (k : Int)) % 256), .int .u8 (((a : Int) + (k : Int)) / 256)]) := by
      show _ = _
      rw [cellsB_append, HCh.out]
     obtain ⟨n, hn⟩ : ∃ n, L0.length = n := ⟨_, rfl⟩
     have hn1 : n <= 1060000 := by have := HLL.out; have := HCL.out; have := HCT.out; omega
     have HN2 : Hid ((L0 ++ ch2 (a + k)).length = n + 2) := by show _ = _; rw [List.length_append, hn]; rfl
     have HB1 : Hid (w2.ownsRow w.heap.size 5 1 u3 n (cellsB L0)) := by
      have := HK2.out.bytes; unfold BRow at this; rw [hn] at this; exact this
     have HHN := Lib.hid hn
     clear hn HCh
     generalize L0 ++ ch2 (a + k) = L1 at *
     go_wp2_with (at_builtin; first
      | (refine wpList_append_where _ rfl (.tmp 44) (.tmp 50) 107 rfl w.heap.size 5 i0 (.int .u8 0) 1 1 Tryz.underlying107 hi hz0 hz1 HZ2.out rfl (by omega) _ n (cellsB L0) rfl (HB1.out.alloc _) ⟨w2.heap.size, 0, none⟩ 2 2 [.int .u8 (((a : Int) + (k : Int)) % 256), .int .u8 (((a : Int) + (k : Int)) / 256)] rfl rfl (bytes_two rfl) ?c1 ?c2 ?c3 ?c4 ?_))
     case c1 => intro u hu; simp at hu; rcases hu with rfl | rfl <;> rfl
     case c2 => unfold maxLen; omega
     case c3 => omega
     case c4 => have := (Below.refl w2.heap.size w2).alloc (Nat.le_refl _) (.cells #[.int .u8 (((a : Int) + (k : Int)) % 256), .int .u8 (((a : Int) + (k : Int)) / 256)] 5); exact Nat.le_trans hw2 this.size
     rotate_left
     intro v3 w3 hown3 hg3 hk3
     have HB3 : Hid (w3.ownsRow w.heap.size 5 1 v3 (n + 2) (cellsB L1)) := by
      show World.ownsRow _ _ _ _ _ _ _
      rw [HL1.out]; exact hown3
     have HS3 : Hid (Sx S w w3 s p P N (mi + cntR (R.take q) + k + 1) v3 (.slice (some ⟨g, 0, none⟩) rl vc) L1 R) := by
      show Sx _ _ _ _ _ _ _ _ _ _ _ _
      refine HK2.out.push ((Below.refl _ _).alloc (Nat.le_refl _) _) ?_ hg3 (fun k hk => by have := hk3 k hk; simpa using this)
      unfold BRow
      rw [HN2.out]; exact HB3.out
     have hw3 := HS3.out.size
     clear hown3 hg3 hk3 HK2 HB1 HL1
     go_wp2_with (at_builtin; first
      | (refine wpList_append_str_where _ rfl (.tmp 52) (.tmp 53) 107 9 rfl w.heap.size 5 i0 Tryz.underlying107 Tryz.underlying9 hi hz0 hz1 HZ2.out v3 (n + 2) _ rfl HB3.out T rfl ?c1 ?c2 ?c3 ?_))
     case c1 => unfold maxLen; have := HTk.out; omega
     case c2 => have := HTk.out; omega
     case c3 => exact hw3
     rotate_left
     intro v4 w4 hown4 hg4 hk4
     have HS4 : Hid (Sx S w w4 s p P N (mi + cntR (R.take q) + (k + 1)) v4 (.slice (some ⟨g, 0, none⟩) rl vc) LN R) := by
      show Sx _ _ _ _ _ _ _ _ _ _ _ _
      refine HS3.out.push (Below.refl _ _) ?_ hg4 hk4
      unfold BRow
      rw [<- HNx.out, cellsB_append, List.length_append, HN2.out]
      have e : T.data.toList.length = T.size := by simp
      rw [e]
      exact hown4
     clear hown4 hg4 hk4 HS3 HB3
     go_wp2
     go_roundw
     case rel =>
      refine ⟨k + 1, by omega, by go_num, ?_⟩
      show Sx _ _ _ _ _ _ _ _ _ _ _ _
      rw [HLN.out]; exact HS4.out
     case measure => simp [intOf]; omega
    ·obtain rfl : k = c := by omega
     have z1 : ¬ ((a : Int) + (k : Int) < (a : Int) + (k : Int)) := by omega
     go_wp2_with fail
     go_region_held3 (fun W : World => W.cell? ⟨g, q * 2, none⟩ = some (.int .i64 (a : Int)) /\ W.cell? ⟨g, q * 2 + 1, none⟩ = some (.int .i64 (k : Int)))
      (first | exact ⟨c2, c3⟩ | assumption)
      (fail)
     have HK9 : Hid (Sx S w wr.drew s p P N (mi + cntR (R.take (q + 1))) u3 (.slice (some ⟨g, 0, none⟩) rl vc) (stA P.t (R.take (q + 1))) R) := by
      show Sx _ _ _ _ _ _ _ _ _ _ _ _
      rw [HSA.out, HCT.out, <- Nat.add_assoc]
      exact HK.out.below (Below.refl _ _).drew
     go_wp2
     go_roundw
     case rel => exact ⟨q + 1, by omega, by go_num, HK9.out⟩
     case measure => simp [intOf]; omega
  ·obtain rfl : q = rl := by omega
   have z0 : ¬ ((q : Int) < (q : Int)) := by omega
   have HRt : Hid (R.take q = R) := by rw [<- HRL.out]; exact List.take_length
   have HF : Hid (BRow w.heap.size wr u3 P.stateL) := by
    have := HS.out.bytes; rw [HRt.out, HAll.out] at this; exact this
   have HL : Hid (StL S w wr s p P N (mi + 4096)) := by
    have := HS.out.left; rw [HRt.out] at this; exact this.more (by have := HCn.out; omega)
   have hcv := HF.out.text
   clear HS
   go_wp2_with fail
   go_ret
   exact ⟨rfl, HL⟩
end
end Go.Proofs.YthambopnmhkeeaaGreat
