/- What Drop leaves: its two closures, maps.DeleteFunc over the cache's map, slices.DeleteFunc over its row. -/
import Derived.Test.YteeoglfgilabaaaZCGet
import Derived.Lib.SlMapFilter
import Derived.Shelf.SlicesE.DeleteFunc
import Derived.Deep.RegionHeld3
import Derived.Deep.RegionLaw

namespace Go.Proofs.Yteeoglfgilabaaa
open Go.RowKit Go.Maps

theorem below_grown {w w' : World} (h : Below w.heap.size w w') : w.grownBy w' none := ⟨h.os, h.tape, h.output, h.size, fun i hi _ => h.block i hi⟩
def pdD (_ : Lit) (d : DataW Unit) : Bool := match d with
  | .agg [_, .lit (.bool b), _] => b
  | _ => false
theorem pdD_dat (kl : Lit) (x : Kp) : pdD kl x.dat = x.dirty := rfl
set_option maxRecDepth 100000 in
theorem drop2_any (i : Int) (s : ByteArray) (d : Bool) (m : Int) (w : World) : Calls Try.prog 45 #[.int .i64 i, .agg #[.string s, .bool d, .int .i64 m]] w fun e w' => e = .returned (.bool d) ∧ Below w.heap.size w w' := by
  go_enter Try.func45, Try.ntmps45
  go_wp2
  go_ret
  exact ⟨rfl, (Below.refl _ _).alloc (Nat.le_refl _) _⟩
theorem enters_drop2 : ∀ args w, (callFunc 45 args).run Try.prog w = .ok (.enter 45 args) w := enters_of Try.func45 (by kernel_rfl) rfl
theorem delD_toD {L : List Kp} (hn : (keys L).Nodup) (hw : Wf L) : Lib.deleteFuncD pdD (toD L) = toD (L.filter fun x => !x.dirty) := by
  show DataW.map _ = DataW.map _
  have hs : (L.filter fun x => !x.dirty).Sublist L := List.filter_sublist
  have hnM : (keys (L.filter fun x => !x.dirty)).Nodup := hn.sublist (hs.map _)
  have hwM : Wf (L.filter fun x => !x.dirty) := fun x hx => hw x (hs.subset hx)
  have e1 : (L.map ent).filter (fun p => !pdD p.1 p.2) = (L.filter fun x => !x.dirty).map ent := by
    clear hn hw hs hnM hwM
    induction L with
    | nil => rfl
    | cons x r ih => simp only [List.map_cons, List.filter_cons, ih]; rw [show pdD (ent x).1 (ent x).2 = x.dirty from rfl]; cases x.dirty <;> simp
  congr 1
  refine ChangeMaps.eq_of_perm_sorted ?_ ((sorted_sorted klaw.one _ (keys_ent hw) (apart_ent hn)).filter _) (sorted_sorted klaw.one _ (keys_ent hwM) (apart_ent hnM))
  exact (((WideShapes.sorted_perm _).filter _).trans (by rw [e1])).trans (WideShapes.sorted_perm _).symm
structure St3 where
  s : ByteArray
  d : Bool
  m : Int
/-- The step of a range over a cache's map. -/
theorem wpList_next_st (w : World) {ops : Array Oper} {rest : List Oper} {o : Oper} {a : Act} {Q : Exit → Act → World → Prop} (hg : o.guard = none) (it : Operand) (hop : o.op = Op.next it false) (b r n : Nat) (D : DataW Unit) (left : Lit → Bool) (cnt : Nat)
    (hit : a.eval it = .pointer (some ⟨r, 0, none⟩)) (h : w.ranges Try.prog 3 stE b r n D left cnt)
    (hDone : Hid (∀ l, left l = false) → wpList Try.prog ops Q rest (a.put o.dst (.tuple #[.bool false])) w)
    (hMore : ∀ (x : Int) (y : St3) (w' : World) (cnt' : Nat), Hid ((-9223372036854775808 ≤ x ∧ x ≤ 9223372036854775807) ∧ left (kl x) = true ∧ (∀ zd, D.atKey (kl x) zd = .agg [.lit (.string y.s.data.toList), .lit (.bool y.d), .lit (.int .i64 y.m)]) ∧ w'.ranges Try.prog 3 stE b r n D (fun z => left z && !z.sameKey (kl x)) cnt' ∧ cnt' < cnt ∧
      w.grownBy w' (some r) ∧ w'.heap.size = w.heap.size) → (Instr.entry (.pointer (some ⟨r, 0, none⟩))).run Try.prog w' = .ok (.tuple #[.int .i64 x, .agg #[.string y.s, .bool y.d, .int .i64 y.m]]) w' → wpList Try.prog ops Q rest (a.put o.dst (.tuple #[.bool true, .int .i64 x, .agg #[.string y.s, .bool y.d, .int .i64 y.m]])) w') :
    wpList Try.prog ops Q (o :: rest) a w :=
  wpList_next_ranges w hg it hop 3 klaw stE (Value.int .i64) (fun c : ByteArray × Bool × Int => .agg #[.string c.1, .bool c.2.1, .int .i64 c.2.2]) (fun key l hk => by obtain ⟨x, rfl, _⟩ := Maps.keyOf_int_inv Try.underlying3 hk; exact ⟨x, rfl⟩) (fun v y hv => by obtain ⟨s, d, m, rfl, _⟩ := stE_inv hv; exact ⟨(s, d, m), rfl⟩) b r n D left cnt hit h
    (fun _ hl => hDone hl)
    (fun x c l y w' cnt' hkey hlk hv hat hrg hlt hgr hsz hen => by
      obtain ⟨s, d, m⟩ := c
      obtain ⟨x', ex, rfl, hwx⟩ := Maps.keyOf_int_inv Try.underlying3 hkey
      cases ex
      have hy : y = (.agg [.lit (.string s.data.toList), .lit (.bool d), .lit (.int .i64 m)], []) := by
        have := stE_mk s d m
        rw [this] at hv; cases hv; rfl
      subst hy
      refine hMore x ⟨s, d, m⟩ w' cnt' ⟨?_, hlk, hat, hrg, hlt, hgr, hsz⟩ hen
      simp only [Lit.wf, Bool.and_eq_true, decide_eq_true_eq] at hwx
      exact hwx)
section
variable {S : Nat → Prop} {w w1 w2 : World} {p bm : Nat} {src ov ov' : Value} {C : CS}
set_option maxHeartbeats 4000000 in
set_option maxRecDepth 100000 in
theorem mdel_any {L : List Kp} (h : MapL w bm L) (hn : (keys L).Nodup) (hw : Wf L) :
    Calls Try.prog 44 #[.map (some bm), .func (.func 45) #[] #[]] w fun e w' => e = .returned (.tuple #[]) ∧ MapL w' bm (L.filter fun x => !x.dirty) ∧ Only (fun k => k = bm) w w' := by
  have hown : w.ownsMap Try.prog 3 stE bm L.length (toD L) := h
  have HDD := Lib.hid (delD_toD hn hw)
  obtain ⟨es0, hes, hap, hkeys⟩ := hown.entries klaw
  rw [hes] at hown HDD
  have HAP := Lib.hid hap; have HKY := Lib.hid hkeys
  have hst := Fk_start (pd := pdD) hkeys
  have HST := Lib.hid hst
  clear hes hap hkeys hst h hn hw
  go_enter Try.func44, Try.ntmps44
  go_wp2_with (first
    | (at_range; refine wpList_range_own _ rfl _ 64 rfl 3 71 klaw Try.underlying64 stE bm L.length _ rfl hown ?_; intro w0 hrg0 hg0 hs0)
    | go_in)
  go_frame
  have HRG0 := Lib.hid hrg0; have HG0 := Lib.hid hg0
  clear hrg0 hg0 hown
  go_loopw [8] (fun _ wr => ∃ (left : Lit → Bool) (cnt : Nat), Hid (wr.ranges Try.prog 3 stE bm w.heap.size L.length (Fk pdD es0 left) left cnt) ∧ Hid (w.grownBy wr (some bm)))
    (fun _ wr => wr.rangeLeft bm w.heap.size)
  case atStart => exact ⟨_, _, by rw [HST.out]; exact HRG0, HG0.out.but _⟩
  case round =>
    clear HRG0 HG0
    obtain ⟨left, cnt, HRG, HGW⟩ := hrel
    go_wp2_with (first
      | (at_next; refine wpList_next_st _ rfl _ rfl bm w.heap.size L.length _ _ _ rfl HRG.out ?_ ?_)
      | go_in)
    · intro HL0
      go_wp2
      go_end0
      have := HRG.out.owns
      rw [Fk_end HL0.out, HDD.out] at this
      exact ⟨rfl, MapL.of this, only_grown HGW.out⟩
    · rintro x ⟨s, d, m⟩ w1 cnt1 HX hen
      obtain ⟨hi, hlx, hat, hrg1, hlt, hg1, hs1⟩ := HX.out
      have hwl := HRG.out.lt
      obtain ⟨W, hW, l0, l1, l2, hb⟩ := st_new w1 s d m
      have HC := Lib.hid (drop2_any x s d m W)
      have HGW1 : Hid (w.grownBy W (some bm)) := (HGW.out.andThen hg1 (fun j hj => by cases hj; exact Or.inl (Nat.le_refl _))).andThen (below_grown hb) (fun j hj => by cases hj)
      have HRG2 := Lib.hid (hrg1.kept (below_grown hb) (by simp) (by simp))
      have HHAT := Lib.hid hat; have HLX := Lib.hid hlx; have HLT := Lib.hid hlt
      have HI := Lib.hid hi
      have HWE := Lib.hid hW
      clear hi hlx hat hrg1 hlt hg1 hs1 hb HX hW
      cases d
      · go_wp2_with fail
        rw [HWE.out]
        refine HC.out.mono ?_
        rintro e w2 ⟨rfl, hb2⟩
        have HRG3 := Lib.hid (HRG2.out.kept (below_grown hb2) (by simp) (by simp))
        have HGW2 : Hid (w.grownBy w2 (some bm)) := HGW1.out.andThen (below_grown hb2) (fun j hj => by cases hj)
        clear hb2 HC
        go_wp2
        go_roundw
        case rel => exact ⟨_, cnt1, by rw [← Fk_stays HAP.out (show WideAt.IsKeyLit (kl x) from trivial) HLX.out (d := .agg [.lit (.string s.data.toList), .lit (.bool false), .lit (.int .i64 m)]) rfl HHAT.out]; exact HRG3, HGW2⟩
        case measure => rw [HRG3.out.left_eq, HRG.out.left_eq]; exact HLT.out
      · go_wp2_with fail
        rw [HWE.out]
        refine HC.out.mono ?_
        rintro e w2 ⟨rfl, hb2⟩
        have HRG3 := Lib.hid (HRG2.out.kept (below_grown hb2) (by simp) (by simp))
        have HGW2 : Hid (w.grownBy w2 (some bm)) := HGW1.out.andThen (below_grown hb2) (fun j hj => by cases hj)
        clear hb2 HC
        go_wp2_with (first
          | (at_delete; refine wpList_delete_ranges _ rfl _ _ 64 3 rfl 71 klaw Try.underlying64 stE bm w.heap.size L.length _ _ _ rfl HRG3.out _ _ rfl (keyI HI.out) ?_; intro w3 cnt3 hrg3 hle hturn; go_frame)
          | go_in)
        rw [strike_twice] at hrg3
        have HRG4 := Lib.hid hrg3
        have HGW3 : Hid (w.grownBy w3 (some bm)) := HGW2.out.andThen hturn.grown (fun j hj => by cases hj; exact Or.inr rfl)
        clear hrg3 hturn
        go_roundw
        case rel => exact ⟨_, cnt3, by rw [← Fk_struck HAP.out (show WideAt.IsKeyLit (kl x) from trivial) HLX.out (d := .agg [.lit (.string s.data.toList), .lit (.bool true), .lit (.int .i64 m)]) rfl HHAT.out]; exact HRG4, HGW3⟩
        case measure => rw [HRG4.out.left_eq, HRG.out.left_eq]; have := HLT.out; omega

/-! slices.DeleteFunc over the row. -/
abbrev I64 := { x : Int // -9223372036854775808 ≤ x ∧ x ≤ 9223372036854775807 }
instance : Inhabited I64 := ⟨⟨0, by decide⟩⟩
abbrev encS (x : I64) : Value := .int .i64 x.1
def dirtyOf (L : List Kp) (i : Int) : Bool := match fx L i with
  | some (_, y) => y.dirty
  | none => false
theorem dirtyOf_mem {L : List Kp} (hn : (keys L).Nodup) {x : Kp} (hx : x ∈ L) : dirtyOf L x.key = x.dirty := by
  obtain ⟨k, hk, rfl⟩ := List.getElem_of_mem hx
  unfold dirtyOf; rw [fx_of hn hk]
def keyS (L : List Kp) (hw : Wf L) : List I64 := L.attach.map fun x => ⟨x.1.key, hw x.1 x.2⟩
theorem keyS_val (L : List Kp) (hw : Wf L) : (keyS L hw).map (·.1) = keys L := by
  unfold keyS keys
  rw [List.map_map]
  exact List.attach_map_val (f := fun x : Kp => x.key)
theorem filter_keyS (L : List Kp) (hw : Wf L) (hn : (keys L).Nodup) : ((keyS L hw).filter fun x => !dirtyOf L x.1).map (·.1) = keys (L.filter fun x => !x.dirty) := by
  have e1 : ((keyS L hw).filter fun x => !dirtyOf L x.1).map (·.1) = (keys L).filter fun i => !dirtyOf L i := by
    rw [← keyS_val L hw, List.filter_map]; rfl
  rw [e1]
  unfold keys
  rw [List.filter_map]
  congr 1
  refine List.filter_congr fun x hx => ?_
  show (!dirtyOf L x.key) = _
  rw [dirtyOf_mem hn hx]
theorem field_dirty (s : ByteArray) (d : Bool) (m : Int) (w : World) : (Instr.field 71 (.agg #[.string s, .bool d, .int .i64 m]) 1).run Try.prog w = .ok (.bool d) w := by kernel_rfl
set_option maxRecDepth 100000 in
set_option maxHeartbeats 400000 in
theorem drop1_any {L : List Kp} (i : Int) (hi : -9223372036854775808 ≤ i ∧ i ≤ 9223372036854775807) (bx : Nat) (h : MapL w bm L) (hn : (keys L).Nodup) (hw : Wf L) (c0 : w.cell? ⟨bx, 0, none⟩ = some (.pointer (some ⟨p, 0, none⟩))) (c2 : w.cell? ⟨p, 2, none⟩ = some (.map (some bm))) :
    Calls Try.prog 43 #[.int .i64 i, .pointer (some ⟨bx, 0, none⟩)] w fun e w' => e = .returned (.bool (dirtyOf L i)) ∧ w' = w := by
  have HM := Lib.hid h; have HN := Lib.hid hn; have HW := Lib.hid hw; have HI := Lib.hid hi
  have hfd := field_dirty
  cases hf : fx L i with
  | none =>
    have e : dirtyOf L i = false := by unfold dirtyOf; rw [hf]
    rw [e]
    have HF := Lib.hid hf
    clear h hn hw hi hf e
    go_enter Try.func43, Try.ntmps43
    go_wp2_with (at_lookup; refine wpList_has_no _ rfl _ _ rfl rfl rfl HM.out HI.out HF.out ?_)
    go_ret
    exact ⟨rfl, rfl⟩
  | some ky =>
    obtain ⟨k, yi, ys, yd, yn⟩ := ky
    have e : dirtyOf L i = yd := by unfold dirtyOf; rw [hf]
    rw [e]
    have HF := Lib.hid hf
    clear h hn hw hi hf e
    go_enter Try.func43, Try.ntmps43
    go_wp2_with (at_lookup; refine wpList_has_yes _ rfl _ _ rfl rfl rfl HM.out HN.out HW.out k _ HF.out ?_)
    go_ret
    exact ⟨rfl, rfl⟩
theorem enters_drop1 : ∀ args w, (callFunc 43 args).run Try.prog w = .ok (.enter 43 args) w := enters_of Try.func43 (by kernel_rfl) rfl
theorem sort_heap {α : Type} [Inhabited α] (enc : α → Value) (w : World) (blk off n : Nat) (dk : Array α) (os : Array Obj) (k : Nat) (hk : k < w.heap.size) (hne : k ≠ blk) : (sortWorld enc w blk off n dk os).heap[k]? = w.heap[k]? := by
  unfold sortWorld
  rw [Sort.heap_grow_old _ _ (by simpa [Sort.putRow, Sort.mapBlock, Sort.ahead] using hk)]
  show ((Sort.ahead w n).heap.modify blk _)[k]? = w.heap[k]?
  rw [Array.getElem?_modify, if_neg (fun e => hne e.symm)]; rfl
theorem putRow_ownS {w : World} {g cap n : Nat} {xs : List Value} (h : w.ownsRow 0 3 1 (.slice (some ⟨g, 0, none⟩) n cap) n xs) (q : Nat) (d : List I64) (hd : d.length = n) (m : Nat) (hm : m ≤ n) :
    (Sort.putRow encS (Sort.ahead w q) g 0 d.toArray).ownsRow 0 3 1 (.slice (some ⟨g, 0, none⟩) m cap) m ((d.take m).map encS) ∧ Only (fun k => k = g) w (Sort.putRow encS (Sort.ahead w q) g 0 d.toArray) := by
  have hlen : ((d.take m).map encS).length = m * 1 := by simp; omega
  rcases h.2 with ⟨hv, _⟩ | ⟨g', cap', cur, hv, hb, hg, hc1, hc2, hc3, hc4⟩
  · cases hv
  · obtain ⟨rfl, rfl⟩ : g = g' ∧ cap = cap' := by simpa using hv
    refine ⟨⟨hlen, .inr ⟨g, cap, Sort.putCells encS 0 d.toArray cur, rfl, Nat.zero_le _, ?_, by omega, hc2, by simp [Sort.putCells, hc3], ?_⟩⟩, ?_⟩
    · simp only [Sort.putRow, Sort.mapBlock, Array.getElem?_modify, if_pos]
      show (w.heap[g]?).map _ = _
      rw [hg]; rfl
    · apply List.ext_getElem
      · rw [hlen, List.length_take, Array.length_toList]
        simp [Sort.putCells, hc3]; omega
      · intro i h1 h2
        have hi : i < m := by simp at h2; omega
        have hid : i < d.length := by omega
        simp only [List.getElem_take, Array.getElem_toList, List.getElem_map, Sort.putCells, Array.getElem_mapIdx]
        rw [if_pos ⟨Nat.zero_le _, by simp; omega⟩]
        simp [hid]
    · refine ⟨rfl, rfl, rfl, by simp [Sort.putRow, Sort.mapBlock], fun k hk hne => ?_⟩
      show ((Sort.ahead w q).heap.modify g _)[k]? = w.heap[k]?
      rw [Array.getElem?_modify, if_neg (fun e => hne e.symm)]; rfl
set_option maxRecDepth 100000 in
set_option maxHeartbeats 400000 in
theorem delF_empty (a : Option Addr) (c : Nat) (fv : Value) (w : World) : Calls Try.prog 42 #[.slice a 0 c, fv] w fun e w' => e = .returned (.slice a 0 c) ∧ w = w' := by
  have HI := Lib.hid (Try.slices_IndexFunc_empty (α := Int) a c fv w)
  go_enter Try.func42, Try.ntmps42
  go_wp2_with fail
  refine HI.out.mono ?_
  rintro e w1 ⟨rfl, hw⟩
  obtain rfl : w = w1 := hw.symm
  clear hw
  go_wp2
  go_ret
  exact ⟨rfl, rfl⟩
theorem delF_any (h : CB S w p bm src ov C) (bx : Nat) (c0 : w.cell? ⟨bx, 0, none⟩ = some (.pointer (some ⟨p, 0, none⟩))) (hbx : ¬ S bx) :
    Calls Try.prog 42 #[ov, .func (.func 43) #[] #[.pointer (some ⟨bx, 0, none⟩)]] w fun e w' => ∃ v', e = .returned v' ∧ w'.ownsRow 0 3 1 v' (keys C.drop.L).length ((keys C.drop.L).map (Value.int .i64)) ∧ (∀ k, v'.ownBlock = some k → ov.ownBlock = some k) ∧ Only (fun k => ov.ownBlock = some k) w w' := by
  have hl : C.L.length ≤ 1024 := by have := h.ok.len; have := h.ok.m1; omega
  by_cases h0 : 0 < C.L.length
  · obtain ⟨g, cap, cur, rfl, _⟩ := row_form h.raw.hr (by rw [keys_len]; exact h0)
    have hr := h.raw.hr
    obtain ⟨hc1, hc2⟩ := row_caps hr
    have hgl := (hr.lt g rfl).2
    have hgp : p ≠ g := fun e => h.raw.rp (by rw [e]; rfl)
    have hgb : bm ≠ g := fun e => h.rb (by rw [e]; rfl)
    have hgx : bx ≠ g := fun e => hbx (by rw [e]; exact h.sr g rfl)
    have hbl : bx < w.heap.size := World.block_lt_of_cell? w _ c0
    have hks := keyS_val C.L h.ok.wf
    have hfil := filter_keyS C.L h.ok.wf h.ok.nodup
    generalize keyS C.L h.ok.wf = KS at hks hfil
    have hkl : KS.length = (keys C.L).length := by have := congrArg List.length hks; simpa using this
    have hH : Sort.Holds encS w g 0 KS.toArray := by
      intro j hj
      have hj' : j < KS.length := by simpa using hj
      refine ⟨?_, World.ownsRow.frozenAt hr _⟩
      rw [row_cells hr j (by omega)]
      have e1 : (keys C.L).getD j 0 = (KS[j]).1 := by
        have h2 : (KS.map (·.1))[j]? = some KS[j].1 := by rw [List.getElem?_map, List.getElem?_eq_getElem hj']; rfl
        rw [hks] at h2
        rw [List.getD_eq_getElem?_getD, h2]; rfl
      rw [e1]
      simp [hj']
    have gives : ∀ W : World, (∀ k, k < w.heap.size → k ≠ g → W.heap[k]? = w.heap[k]?) → ∀ x : I64, FnGives Try.prog 43 #[.pointer (some ⟨bx, 0, none⟩)] #[encS x] (.bool (dirtyOf C.L x.1)) W := by
      intro W hW x
      refine (drop1_any (p := p) x.1 x.2 bx (h.map.kept (hW bm h.map.lt hgb)) h.ok.nodup h.ok.wf ((World.cell?_of_block (hW bx hbl hgx)).trans c0) ((World.cell?_of_block (hW p h.raw.lt hgp)).trans h.raw.c2)).mono fun e w' ⟨he, hw⟩ => ⟨he, 0, hw⟩
    have := Try.slices_DeleteFunc encS (fun _ => rfl) (fun x : I64 => dirtyOf C.L x.1) 43 #[.pointer (some ⟨bx, 0, none⟩)] enters_drop1 ⟨0, by decide⟩ (fun _ => by kernel_rfl) g 0 cap KS.toArray w
      (fun W x hb => gives W (fun k hk _ => hb.block k hk) x) (fun n os dk x _ => gives _ (fun k hk hne => sort_heap encS w g 0 n dk os k hk hne) x) hH (by simp; omega) (by simp; omega)
    have esz : KS.toArray.size = (keys C.L).length := by simpa using hkl
    rw [esz] at this
    refine this.mono fun e w' ⟨he, q, hw⟩ => ?_
    obtain ⟨F, hF⟩ : ∃ F, KS.toArray.toList.filter (fun x => !dirtyOf C.L x.1) = F := ⟨_, rfl⟩
    rw [hF] at he hw
    have hFv : F.map (·.1) = keys C.drop.L := by rw [← hF]; exact hfil
    have hFl : F.length = (keys C.drop.L).length := by rw [← hFv]; simp
    have hFn : F.length ≤ (keys C.L).length := by rw [← hF, ← hkl]; exact List.length_filter_le _ _
    have hp := putRow_ownS hr q (F ++ List.replicate ((keys C.L).length - F.length) ⟨0, by decide⟩) (by simp; omega) F.length hFn
    rw [← hw] at hp
    have e3 : ((F ++ List.replicate ((keys C.L).length - F.length) (⟨0, by decide⟩ : I64)).take F.length).map encS = (keys C.drop.L).map (Value.int .i64) := by
      rw [List.take_left, ← hFv, List.map_map]; rfl
    rw [e3] at hp
    refine ⟨_, he, ?_, fun k hk => hk, hp.2.mono (fun k _ e => by rw [e]; rfl)⟩
    rw [← hFl]; exact hp.1
  · have e0 : C.L = [] := List.eq_nil_of_length_eq_zero (by omega)
    have ed : C.drop.L = [] := by unfold CS.drop; rw [e0]; rfl
    obtain ⟨ao, cap, rfl⟩ := own_shape h.raw.hr
    have hr := h.raw.hr
    rw [ed]
    rw [e0] at hr ⊢
    refine (delF_empty ao cap _ w).mono fun e w' ⟨he, hw⟩ => ⟨_, he, ?_, fun k hk => hk, ?_⟩
    · rw [← hw]; exact hr
    · rw [← hw]; exact Only.refl _ _
theorem box_one (w : World) (p : Nat) : ∃ W, w.alloc (.cells #[.pointer (some ⟨p, 0, none⟩)] 24) = W ∧ W.cell? ⟨w.heap.size, 0, none⟩ = some (.pointer (some ⟨p, 0, none⟩)) ∧ Below w.heap.size w W ∧ w.heap.size < W.heap.size :=
  ⟨_, rfl, by rw [World.cell?_alloc_mark]; rfl, (Below.refl _ _).alloc (Nat.le_refl _) _, by simp⟩
end
end Go.Proofs.Yteeoglfgilabaaa
/- What Drop leaves. -/
namespace Go.Proofs.Yteeoglfgilabaaa
open Go.RowKit

section
variable {S : Nat → Prop} {w w' w1 w2 : World} {p bm : Nat} {src ov ov' : Value} {C : CS}
theorem CB.dropped (h : CB S w p bm src ov C) (hr : Raw w' p bm src ov' (C.most : Int) (C.misses : Int) (keys C.drop.L)) (hm : MapL w' bm C.drop.L) (hk : ∀ k, ov'.ownBlock = some k → ov.ownBlock = some k) (hs : w.heap.size ≤ w'.heap.size) : CB S w' p bm src ov' C.drop :=
  ⟨h.ok.drop, hr, hm, h.bp, fun e => h.rb (hk _ e), h.sp, h.sb, fun k e => h.sr k (hk k e), fun k e => Nat.lt_of_lt_of_le (h.lt k e) hs⟩
theorem raw_set {O O' : List Int} {m mi : Int} (h : Raw w p bm src ov m mi O) (ho : Only (fun k => ov.ownBlock = some k) w w1) (hr : w1.ownsRow 0 3 1 ov' O'.length (O'.map (Value.int .i64))) (hk : ∀ k, ov'.ownBlock = some k → ov.ownBlock = some k) : Raw (w1.setCell ⟨p, 3, none⟩ ov') p bm src ov' m mi O' := by
  have hp : w1.heap[p]? = some (.cells #[src, .int .i64 m, .map (some bm), ov, .int .i64 mi] 66 (0, 0)) := by rw [ho.block p h.lt h.rp]; exact h.hp
  refine ⟨by rw [heap_setCell_at hp]; rfl, ownsRow_setCell_other hr (fun e => h.rp (hk _ e)) _, fun e => h.rp (hk _ e)⟩
set_option maxRecDepth 100000 in
set_option maxHeartbeats 1000000 in
theorem drop_any (h : Cch S w p src C) :
    Calls Try.prog 25 #[.pointer (some ⟨p, 0, none⟩)] w fun e w' => e = .returned (.tuple #[]) ∧ CLeaves S w w' p src C.drop := by
  obtain ⟨bm, ov, h⟩ := h
  have hlt := h.raw.lt
  obtain ⟨W, hW, l0, hb, hsz⟩ := box_one w p
  have HSZ := Lib.hid hsz
  have HBL := Lib.hid hb
  have HB := Lib.hid (h.below hb)
  have HN : Hid (¬ S w.heap.size) := fun hS => by have := h.lt _ hS; omega
  have c3 := HB.out.raw.c3
  have f3 := HB.out.raw.f 3
  have HD : Hid (∀ W' : World, Below W.heap.size W W' → Calls Try.prog 42 #[ov, .func (.func 43) #[] #[.pointer (some ⟨w.heap.size, 0, none⟩)]] W' fun e w' => ∃ ao n cap, e = .returned (.slice ao n cap) ∧ Hid (Raw (w'.setCell ⟨p, 3, none⟩ (.slice ao n cap)) p bm src (.slice ao n cap) (C.most : Int) (C.misses : Int) (keys C.drop.L)) ∧ Hid (∀ k, (Value.slice ao n cap).ownBlock = some k → ov.ownBlock = some k) ∧ Hid (MapL (w'.setCell ⟨p, 3, none⟩ (.slice ao n cap)) bm C.L) ∧ Hid (Only S W (w'.setCell ⟨p, 3, none⟩ (.slice ao n cap))) ∧ Hid ((w'.setCell ⟨p, 3, none⟩ (.slice ao n cap)).cell? ⟨w.heap.size, 0, none⟩ = some (.pointer (some ⟨p, 0, none⟩))) ∧ w'.cell? ⟨w.heap.size, 0, none⟩ = some (.pointer (some ⟨p, 0, none⟩)) ∧ w'.cell? ⟨p, 3, none⟩ = some ov ∧ w'.frozen? ⟨p, 3, none⟩ = false) := by
    intro W' hW'
    have hc := HB.out.below hW'
    have c0' := (hW'.cell (p := ⟨w.heap.size, 0, none⟩) HSZ.out).trans l0
    refine (delF_any hc w.heap.size c0' HN.out).mono fun e w' ⟨v', he, hr, hk, ho⟩ => ?_
    obtain ⟨ao, cap, rfl⟩ := own_shape hr
    refine ⟨ao, _, cap, he, raw_set hc.raw ho hr hk, hk, (hc.map.kept (ho.block bm hc.map.lt (fun e => hc.rb e))).kept (Below.heap_setCell _ _ _ _ hc.bp), ((Only.of_below _ hW' (Nat.le_refl _)).trans (ho.mono (fun j _ e => hc.sr j e)) (fun _ _ h => h)).setCell (fun _ => hc.sp) _, ?_, ?_, ?_, ?_⟩
    · show World.cell? _ _ = _; rw [World.cell?_setCell_other _ _ _ _ (by intro e; have : p = w.heap.size := congrArg Addr.block e; exact HN.out (this ▸ hc.sp))]; exact (ho.cell (p := ⟨w.heap.size, 0, none⟩) (Nat.lt_of_lt_of_le HSZ.out hW'.size) (fun e => HN.out (hc.sr _ e))).trans c0'
    · exact (ho.cell (p := ⟨w.heap.size, 0, none⟩) (Nat.lt_of_lt_of_le HSZ.out hW'.size) (fun e => HN.out (hc.sr _ e))).trans c0'
    · exact (ho.cell (p := ⟨p, 3, none⟩) hc.raw.lt hc.raw.rp).trans hc.raw.c3
    · exact (World.frozen?_of_block (ho.block p hc.raw.lt hc.raw.rp)).trans (hc.raw.f 3)
  have HSP := Lib.hid h.sp
  clear h hb hsz
  have HLT := Lib.hid hlt
  clear hlt
  go_enter Try.func25, Try.ntmps25
  have HMD : Hid (∀ W', MapL W' bm C.L → Calls Try.prog 44 #[.map (some bm), .func (.func 45) #[] #[]] W' fun e w' => e = .returned (.tuple #[]) ∧ Hid (MapL w' bm C.drop.L) ∧ Hid (Only (fun k => k = bm) W' w')) := fun W' hm => mdel_any hm HB.out.ok.nodup HB.out.ok.wf
  have BR : Hid (Below W.heap.size W W) := Below.refl _ _
  go_wp2

  clear hW
  go_region_with (go_at_call 42; refine (HD.out _ (by first | exact BR.out | exact BR.out.drew)).mono ?_; rintro e w1 ⟨ao, n, cap, rfl, HR, HK, HM, HO, HX, b1, k3, g3⟩)
  all_goals
    clear b1 k3 g3 HD
    generalize w1.setCell ⟨p, 3, none⟩ (.slice ao n cap) = w2 at *
    have b2 := HX.out
    have c2 := HR.out.c2
    clear l0 c3 f3
    have HMM := Lib.hid (HMD.out w2 HM.out)
    go_wp2_with fail
    refine HMM.out.mono ?_
    rintro e w3 ⟨rfl, HM3, HO3⟩
    go_wp2
    go_end0
    refine ⟨rfl, (CB.leaves (bm := bm) (ov := .slice ao n cap) (h := ?_) (ho := (Only.of_below _ HBL.out (Nat.le_refl _)).trans (HO.out.trans (HO3.out.mono (fun j _ e => by rw [e]; exact HB.out.sb)) (fun _ _ h => h)) (fun _ _ h => h)))⟩
    exact HB.out.dropped (HR.out.kept HO3.out (fun e => HB.out.bp e.symm) (fun k hk e => HB.out.rb (e ▸ HK.out k hk))) HM3.out HK.out (Nat.le_trans HO.out.size HO3.out.size)
end
end Go.Proofs.Yteeoglfgilabaaa
/- What does answers and leaves: an act. -/
namespace Go.Proofs.Yteeoglfgilabaaa
open Go.RowKit

structure Act6 where
  op : Int
  at_ : Int
  b : Int
  bad : Bool
abbrev Act6.agg (a : Act6) : Value := .agg #[.int .i64 a.op, .int .i64 a.at_, .int .u8 a.b, .bool a.bad]
structure Act6.Ok (a : Act6) : Prop where
  op0 : -9223372036854775808 ≤ a.op ∧ a.op ≤ 9223372036854775807
  at0 : -9223372036854775808 ≤ a.at_ ∧ a.at_ ≤ 9223372036854775807
def Act6.i (a : Act6) : Int := atI a.at_
def Act6.s (a : Act6) : ByteArray := dataB a.b a.bad
def Act6.q (a : Act6) : Int := pickI a.op 10
theorem Act6.q_lt (a : Act6) : 0 ≤ a.q ∧ a.q < 10 := pickI_lt a.op 10 (by omega)
theorem Act6.Ok.i {a : Act6} (h : a.Ok) : -9223372036854775808 ≤ a.i ∧ a.i ≤ 9223372036854775807 := by
  unfold Act6.i atI
  split
  · exact h.at0
  · have := pickI_lt a.at_ 12 (by omega); omega

abbrev HeldX (b : Nat) (a : Act6) (W : World) : Prop := W.cell? ⟨b, 0, none⟩ = some (.int .i64 a.op) ∧ W.cell? ⟨b, 1, none⟩ = some (.int .i64 a.at_) ∧ W.cell? ⟨b, 2, none⟩ = some (.int .u8 a.b) ∧ W.cell? ⟨b, 3, none⟩ = some (.bool a.bad)
theorem act_new (w : World) (a : Act6) : ∃ X, w.alloc (.cells #[.int .i64 a.op, .int .i64 a.at_, .int .u8 a.b, .bool a.bad] 37) = X ∧ HeldX w.heap.size a X ∧ Below w.heap.size w X ∧ w.heap.size < X.heap.size :=
  ⟨_, rfl, ⟨by rw [World.cell?_alloc_mark]; rfl, by rw [World.cell?_alloc_mark]; rfl, by rw [World.cell?_alloc_mark]; rfl, by rw [World.cell?_alloc_mark]; rfl⟩, (Below.refl _ _).alloc (Nat.le_refl _) _, by simp⟩
theorem HeldX.below {b : Nat} {a : Act6} {W W' : World} (h : HeldX b a W) (hb : Below W.heap.size W W') (hl : b < W.heap.size) : HeldX b a W' :=
  ⟨(hb.cell (p := ⟨b, 0, none⟩) hl).trans h.1, (hb.cell (p := ⟨b, 1, none⟩) hl).trans h.2.1, (hb.cell (p := ⟨b, 2, none⟩) hl).trans h.2.2.1, (hb.cell (p := ⟨b, 3, none⟩) hl).trans h.2.2.2⟩

section
variable {S : Nat → Prop} {w w' w1 w2 : World} {p bm : Nat} {src ov ov' : Value} {C : CS}
theorem below_pd {W w1 : World} (h : Below W.drew.heap.size W.drew w1) : Below W.heap.size W w1 := ((Below.refl _ _).drew).trans h
theorem pickA (a : Act6) (ha : a.Ok) : Hid (∀ W, Calls Try.prog 12 #[.int .i64 a.op, .int .i64 10] W fun e w' => e = .returned (.int .i64 a.q) ∧ W = w') := fun W => pick_any a.op 10 W ha.op0 (by omega)
theorem atA (a : Act6) (ha : a.Ok) : Hid (∀ W, Calls Try.prog 19 #[.agg #[.int .i64 a.op, .int .i64 a.at_, .int .u8 a.b, .bool a.bad]] W fun e w' => e = .returned (.int .i64 a.i) ∧ Hid (Below W.heap.size W w')) := fun W => at_any a.op a.at_ a.b a.bad W ha.at0
theorem dataA (a : Act6) : Hid (∀ W, Calls Try.prog 29 #[.agg #[.int .i64 a.op, .int .i64 a.at_, .int .u8 a.b, .bool a.bad]] W fun e w' => e = .returned (.string a.s) ∧ Hid (Below W.heap.size W w')) := fun W => data_any a.op a.at_ a.b a.bad W

set_option maxRecDepth 100000 in
set_option maxHeartbeats 1000000 in
theorem does_get (a : Act6) (ha : a.Ok) (hq : a.q < 4) (s : ByteArray) (er : Int) (G : World → Prop) (hget : ∀ W, Below w.heap.size w W → Calls Try.prog 22 #[.pointer (some ⟨p, 0, none⟩), .int .i64 a.i] W fun e w' => e = .returned (.tuple #[.string s, .int .i64 er]) ∧ G w') :
    Calls Try.prog 13 #[.pointer (some ⟨p, 0, none⟩), .agg #[.int .i64 a.op, .int .i64 a.at_, .int .u8 a.b, .bool a.bad]] w fun e w' => e = .returned (.tuple #[.string s, .int .i64 er]) ∧ G w' := by
  obtain ⟨X, hX, ⟨c0, c1, c2, c3⟩, hb, hlt⟩ := act_new w a
  have HP := pickA a ha
  have HA := atA a ha
  have HG := Lib.hid hget
  have HB := Lib.hid hb
  have h0 := a.q_lt
  clear hb hget ha
  generalize a.q = q at *
  generalize a.i = i at *
  obtain ⟨op, at_, b, bad⟩ := a
  simp only at c0 c1 c2 c3 HP HA
  have n4 : (q == 4) = false := by simp; omega
  have n5 : (q == 5) = false := by simp; omega
  have n6 : (q == 6) = false := by simp; omega
  have n7 : (q == 7) = false := by simp; omega
  have n8 : (q == 8) = false := by simp; omega
  have n9 : (q == 9) = false := by simp; omega
  clear hq h0
  go_enter Try.func13, Try.ntmps13
  go_wp2_with fail
  refine (HP.out _).mono ?_
  rintro e w1 ⟨rfl, rfl⟩
  go_wp2_with fail
  refine (HA.out _).mono ?_
  rintro e w1 ⟨rfl, hb1⟩
  have HG2 := Lib.hid (HG.out w1 (HB.out.trans (hb1.out.mono HB.out.size)))
  go_wp2_with fail
  refine HG2.out.mono ?_
  rintro e w2 ⟨rfl, hg⟩
  have HGG := Lib.hid hg
  clear hg
  go_wp2
  go_ret2
  exact ⟨rfl, HGG.out⟩

set_option maxRecDepth 100000 in
set_option maxHeartbeats 1000000 in
theorem does_pin (a : Act6) (ha : a.Ok) (hq : a.q = 6) (h : Cch S w p src C) (hp : ∀ x ∈ C.L, x.pins < 1000000) :
    Calls Try.prog 13 #[.pointer (some ⟨p, 0, none⟩), .agg #[.int .i64 a.op, .int .i64 a.at_, .int .u8 a.b, .bool a.bad]] w fun e w' => e = .returned (.tuple #[.string ⟨#[]⟩, .int .i64 (C.pin a.i).1]) ∧ CLeaves S w w' p src (C.pin a.i).2 := by
  obtain ⟨X, hX, ⟨c0, c1, c2, c3⟩, hb, hlt⟩ := act_new w a
  have HP := pickA a ha
  have HA := atA a ha
  have HG : Hid (∀ W, Below w.heap.size w W → Calls Try.prog 23 #[.pointer (some ⟨p, 0, none⟩), .int .i64 a.i] W fun e w' => e = .returned (.int .i64 (C.pin a.i).1) ∧ CLeaves S W w' p src (C.pin a.i).2) := fun W hW => pin_any a.i ha.i (h.below hW) hp
  have HB := Lib.hid hb
  clear hb ha h
  rw [hq] at HP
  generalize C.pin a.i = R at *
  generalize a.i = i at *
  obtain ⟨op, at_, b, bad⟩ := a
  simp only at c0 c1 c2 c3 HP HA
  clear hq
  go_enter Try.func13, Try.ntmps13
  go_wp2_with fail
  refine (HP.out _).mono ?_
  rintro e w1 ⟨rfl, rfl⟩
  go_wp2_with fail
  refine (HA.out _).mono ?_
  rintro e w1 ⟨rfl, hb1⟩
  have HB1 : Hid (Below w.heap.size w w1) := HB.out.trans (hb1.out.mono HB.out.size)
  have HG2 := Lib.hid (HG.out w1 HB1.out)
  go_wp2_with fail
  refine HG2.out.mono ?_
  rintro e w2 ⟨rfl, hg⟩
  have HGG := Lib.hid hg
  clear hg
  go_wp2
  go_ret2
  exact ⟨rfl, HGG.out.after (Only.of_below _ HB1.out (Nat.le_refl _))⟩

set_option maxRecDepth 100000 in
set_option maxHeartbeats 1000000 in
theorem does_unpin (a : Act6) (ha : a.Ok) (hq : a.q = 7) (h : Cch S w p src C) :
    Calls Try.prog 13 #[.pointer (some ⟨p, 0, none⟩), .agg #[.int .i64 a.op, .int .i64 a.at_, .int .u8 a.b, .bool a.bad]] w fun e w' => e = .returned (.tuple #[.string ⟨#[]⟩, .int .i64 (C.unpin a.i).1]) ∧ CLeaves S w w' p src (C.unpin a.i).2 := by
  obtain ⟨X, hX, ⟨c0, c1, c2, c3⟩, hb, hlt⟩ := act_new w a
  have HP := pickA a ha
  have HA := atA a ha
  have HG : Hid (∀ W, Below w.heap.size w W → Calls Try.prog 28 #[.pointer (some ⟨p, 0, none⟩), .int .i64 a.i] W fun e w' => e = .returned (.int .i64 (C.unpin a.i).1) ∧ CLeaves S W w' p src (C.unpin a.i).2) := fun W hW => unpin_any a.i ha.i (h.below hW)
  have HB := Lib.hid hb
  clear hb ha h
  rw [hq] at HP
  generalize C.unpin a.i = R at *
  generalize a.i = i at *
  obtain ⟨op, at_, b, bad⟩ := a
  simp only at c0 c1 c2 c3 HP HA
  clear hq
  go_enter Try.func13, Try.ntmps13
  go_wp2_with fail
  refine (HP.out _).mono ?_
  rintro e w1 ⟨rfl, rfl⟩
  go_wp2_with fail
  refine (HA.out _).mono ?_
  rintro e w1 ⟨rfl, hb1⟩
  have HB1 : Hid (Below w.heap.size w w1) := HB.out.trans (hb1.out.mono HB.out.size)
  have HG2 := Lib.hid (HG.out w1 HB1.out)
  go_wp2_with fail
  refine HG2.out.mono ?_
  rintro e w2 ⟨rfl, hg⟩
  have HGG := Lib.hid hg
  clear hg
  go_wp2
  go_ret2
  exact ⟨rfl, HGG.out.after (Only.of_below _ HB1.out (Nat.le_refl _))⟩

set_option maxRecDepth 100000 in
set_option maxHeartbeats 1000000 in
theorem does_clean (a : Act6) (ha : a.Ok) (hq : a.q = 8) (h : Cch S w p src C) :
    Calls Try.prog 13 #[.pointer (some ⟨p, 0, none⟩), .agg #[.int .i64 a.op, .int .i64 a.at_, .int .u8 a.b, .bool a.bad]] w fun e w' => e = .returned (.tuple #[.string ⟨#[]⟩, .int .i64 0]) ∧ CLeaves S w w' p src C.clean := by
  obtain ⟨X, hX, ⟨c0, c1, c2, c3⟩, hb, hlt⟩ := act_new w a
  have HP := pickA a ha
  have HG := Lib.hid (clean_any (h.below hb))
  have HB := Lib.hid hb
  clear hb ha h
  rw [hq] at HP
  obtain ⟨op, at_, b, bad⟩ := a
  simp only at c0 c1 c2 c3 HP
  clear hq
  go_enter Try.func13, Try.ntmps13
  go_wp2_with fail
  refine (HP.out _).mono ?_
  rintro e w1 ⟨rfl, rfl⟩
  go_wp2_with fail
  refine HG.out.mono ?_
  rintro e w2 ⟨rfl, hg⟩
  have HGG := Lib.hid hg
  clear hg
  go_wp2
  go_ret2
  exact ⟨rfl, HGG.out.after (Only.of_below _ HB.out (Nat.le_refl _))⟩

set_option maxRecDepth 100000 in
set_option maxHeartbeats 1000000 in
theorem does_drop (a : Act6) (ha : a.Ok) (hq : a.q = 9) (h : Cch S w p src C) :
    Calls Try.prog 13 #[.pointer (some ⟨p, 0, none⟩), .agg #[.int .i64 a.op, .int .i64 a.at_, .int .u8 a.b, .bool a.bad]] w fun e w' => e = .returned (.tuple #[.string ⟨#[]⟩, .int .i64 0]) ∧ CLeaves S w w' p src C.drop := by
  obtain ⟨X, hX, ⟨c0, c1, c2, c3⟩, hb, hlt⟩ := act_new w a
  have HP := pickA a ha
  have HG := Lib.hid (drop_any (h.below hb))
  have HB := Lib.hid hb
  clear hb ha h
  rw [hq] at HP
  obtain ⟨op, at_, b, bad⟩ := a
  simp only at c0 c1 c2 c3 HP
  clear hq
  go_enter Try.func13, Try.ntmps13
  go_wp2_with fail
  refine (HP.out _).mono ?_
  rintro e w1 ⟨rfl, rfl⟩
  go_wp2_with fail
  refine HG.out.mono ?_
  rintro e w2 ⟨rfl, hg⟩
  have HGG := Lib.hid hg
  clear hg
  go_wp2
  go_ret2
  exact ⟨rfl, HGG.out.after (Only.of_below _ HB.out (Nat.le_refl _))⟩

set_option maxRecDepth 100000 in
set_option maxHeartbeats 1000000 in
theorem does_put (a : Act6) (ha : a.Ok) (hq : a.q = 4 ∨ a.q = 5) (h : Cch S w p src C) :
    Calls Try.prog 13 #[.pointer (some ⟨p, 0, none⟩), .agg #[.int .i64 a.op, .int .i64 a.at_, .int .u8 a.b, .bool a.bad]] w fun e w' => e = .returned (.tuple #[.string ⟨#[]⟩, .int .i64 (C.put a.i a.s).1]) ∧ CLeaves S w w' p src (C.put a.i a.s).2 := by
  obtain ⟨X, hX, ⟨c0, c1, c2, c3⟩, hb, hlt⟩ := act_new w a
  have HP := pickA a ha
  have HA := atA a ha
  have HD := dataA a
  have HG : Hid (∀ W, Below X.heap.size X W → Calls Try.prog 27 #[.pointer (some ⟨p, 0, none⟩), .int .i64 a.i, .string a.s] W fun e w' => e = .returned (.int .i64 (C.put a.i a.s).1) ∧ Hid (CLeaves S w w' p src (C.put a.i a.s).2) ∧ HeldX w.heap.size a w') := by
    intro W hW
    have hw : Below w.heap.size w W := hb.trans (hW.mono hb.size)
    have hx : HeldX w.heap.size a W := (show HeldX w.heap.size a X from ⟨c0, c1, c2, c3⟩).below hW hlt
    refine (put_any a.i ha.i a.s (h.below hw)).mono fun e w' ⟨he, hl⟩ => ⟨he, hl.after (Only.of_below _ hw (Nat.le_refl _)), ?_⟩
    obtain ⟨S', _, _, ho⟩ := hl
    have hn : ¬ S w.heap.size := fun hs => by have := h.lt _ hs; omega
    have hl2 : w.heap.size < W.heap.size := Nat.lt_of_lt_of_le hlt hW.size
    exact ⟨(ho.cell (p := ⟨w.heap.size, 0, none⟩) hl2 hn).trans hx.1, (ho.cell (p := ⟨w.heap.size, 1, none⟩) hl2 hn).trans hx.2.1, (ho.cell (p := ⟨w.heap.size, 2, none⟩) hl2 hn).trans hx.2.2.1, (ho.cell (p := ⟨w.heap.size, 3, none⟩) hl2 hn).trans hx.2.2.2⟩
  have HK : Hid (∀ W, Below X.heap.size X W → HeldX w.heap.size a W) := fun W hW => (show HeldX w.heap.size a X from ⟨c0, c1, c2, c3⟩).below hW hlt
  clear hb ha h hlt
  generalize C.put a.i a.s = R at *
  generalize a.i = i at *
  generalize a.s = s at *
  generalize hqq : a.q = q at *
  have HQ := Lib.hid hqq
  clear hqq
  obtain ⟨op, at_, b, bad⟩ := a
  simp only at c0 c1 c2 c3 HP HA HD
  rcases hq with rfl | rfl
  all_goals
    go_enter Try.func13, Try.ntmps13
    go_wp2_with fail
    refine (HP.out _).mono ?_
    rintro e w1 ⟨rfl, rfl⟩
    go_wp2_with fail
    go_region_held3 (HeldX w.heap.size ⟨op, at_, b, bad⟩)
      (first | exact ⟨c0, c1, c2, c3⟩ | assumption)
      (first
        | (go_at_call 19; refine (HA.out _).mono ?_; rintro e w2 ⟨rfl, hb2'⟩; have hb2 : Hid (Below X.heap.size X w2) := below_pd hb2'.out; have hh2 := HK.out _ hb2.out; clear hb2')
        | (go_at_call 29; refine (HD.out _).mono ?_; rintro e w3 ⟨rfl, hb3'⟩; have hb3 : Hid (Below X.heap.size X w3) := hb2.out.trans (hb3'.out.mono hb2.out.size); have hh3 := HK.out _ hb3.out; have HG2 := Lib.hid (HG.out w3 hb3.out); clear hb3')
        | (go_at_call 27; refine HG2.out.mono ?_; rintro e w4 ⟨rfl, hl4, hh4⟩))
    all_goals
      go_wp2
      go_ret2
      exact ⟨rfl, hl4.out⟩
end
end Go.Proofs.Yteeoglfgilabaaa
/- A cache of the statements' source, on memory that is new; what each call answers there. -/
namespace Go.Proofs.Yteeoglfgilabaaa
open Go.RowKit

/-- Block p is a cache that says C, on memory that came behind w0; what was there stands as it stood. -/
def HomeG (src : Value) (w0 w : World) (p : Nat) (C : CS) : Prop := ∃ S : Nat → Prop, (∀ k, S k → w0.heap.size ≤ k) ∧ Cch S w p src C ∧ Below w0.heap.size w0 w
abbrev Home (w0 w : World) (p : Nat) (C : CS) : Prop := HomeG src0 w0 w p C
section
variable {S : Nat → Prop} {w0 w w' w1 w2 : World} {p bm : Nat} {src : Value} {C C' : CS}
theorem HomeG.ok (h : HomeG src w0 w p C) : C.Ok := by obtain ⟨S, _, h, _⟩ := h; exact h.ok
theorem HomeG.bel (h : HomeG src w0 w p C) : Below w0.heap.size w0 w := by obtain ⟨S, _, _, h⟩ := h; exact h
theorem HomeG.below (h : HomeG src w0 w p C) (hb : Below w.heap.size w w') : HomeG src w0 w' p C := by
  obtain ⟨S, h1, h2, h3⟩ := h
  exact ⟨S, h1, h2.below hb, h3.trans (hb.mono h3.size)⟩
theorem home_leaves (hS : ∀ k, S k → w0.heap.size ≤ k) (hb : Below w0.heap.size w0 w) (h : CLeaves S w w' p src C') : HomeG src w0 w' p C' := by
  obtain ⟨S', h1, h2, h3⟩ := h
  refine ⟨S', fun k hk => ?_, h2, hb.trans (h3.below hb.size (fun k _ hk => hS k hk))⟩
  rcases h1 k hk with h | h
  · exact hS k h
  · exact Nat.le_trans hb.size h
theorem Home.get (h : Home w0 w p C) (i : Int) (hi : -9223372036854775808 ≤ i ∧ i ≤ 9223372036854775807) (hms : C.misses < 1000000) :
    Calls Try.prog 22 #[.pointer (some ⟨p, 0, none⟩), .int .i64 i] w fun e w' => e = .returned (.tuple #[.string (C.get i (told i) (toldE i)).1.1, .int .i64 (C.get i (told i) (toldE i)).1.2]) ∧ Hid (Home w0 w' p (C.get i (told i) (toldE i)).2) := by
  obtain ⟨S, h1, h2, h3⟩ := h
  exact (get_any i hi h2 hms).mono fun e w' ⟨he, hl⟩ => ⟨he, home_leaves h1 h3 hl⟩
theorem HomeG.put (h : HomeG src w0 w p C) (i : Int) (hi : -9223372036854775808 ≤ i ∧ i ≤ 9223372036854775807) (s : ByteArray) :
    Calls Try.prog 27 #[.pointer (some ⟨p, 0, none⟩), .int .i64 i, .string s] w fun e w' => e = .returned (.int .i64 (C.put i s).1) ∧ Hid (HomeG src w0 w' p (C.put i s).2) := by
  obtain ⟨S, h1, h2, h3⟩ := h
  exact (put_any i hi s h2).mono fun e w' ⟨he, hl⟩ => ⟨he, home_leaves h1 h3 hl⟩
theorem HomeG.pin (h : HomeG src w0 w p C) (i : Int) (hi : -9223372036854775808 ≤ i ∧ i ≤ 9223372036854775807) (hp : ∀ x ∈ C.L, x.pins < 1000000) :
    Calls Try.prog 23 #[.pointer (some ⟨p, 0, none⟩), .int .i64 i] w fun e w' => e = .returned (.int .i64 (C.pin i).1) ∧ Hid (HomeG src w0 w' p (C.pin i).2) := by
  obtain ⟨S, h1, h2, h3⟩ := h
  exact (pin_any i hi h2 hp).mono fun e w' ⟨he, hl⟩ => ⟨he, home_leaves h1 h3 hl⟩
theorem HomeG.unpin (h : HomeG src w0 w p C) (i : Int) (hi : -9223372036854775808 ≤ i ∧ i ≤ 9223372036854775807) :
    Calls Try.prog 28 #[.pointer (some ⟨p, 0, none⟩), .int .i64 i] w fun e w' => e = .returned (.int .i64 (C.unpin i).1) ∧ Hid (HomeG src w0 w' p (C.unpin i).2) := by
  obtain ⟨S, h1, h2, h3⟩ := h
  exact (unpin_any i hi h2).mono fun e w' ⟨he, hl⟩ => ⟨he, home_leaves h1 h3 hl⟩
theorem HomeG.clean (h : HomeG src w0 w p C) : Calls Try.prog 26 #[.pointer (some ⟨p, 0, none⟩)] w fun e w' => e = .returned (.tuple #[]) ∧ Hid (HomeG src w0 w' p C.clean) := by
  obtain ⟨S, h1, h2, h3⟩ := h
  exact (clean_any h2).mono fun e w' ⟨he, hl⟩ => ⟨he, home_leaves h1 h3 hl⟩
theorem HomeG.drop (h : HomeG src w0 w p C) : Calls Try.prog 25 #[.pointer (some ⟨p, 0, none⟩)] w fun e w' => e = .returned (.tuple #[]) ∧ Hid (HomeG src w0 w' p C.drop) := by
  obtain ⟨S, h1, h2, h3⟩ := h
  exact (drop_any h2).mono fun e w' ⟨he, hl⟩ => ⟨he, home_leaves h1 h3 hl⟩
theorem HomeG.misses (h : HomeG src w0 w p C) : Calls Try.prog 15 #[.pointer (some ⟨p, 0, none⟩)] w fun e w' => e = .returned (.int .i64 (C.misses : Int)) ∧ w = w' := by
  obtain ⟨S, h1, h2, h3⟩ := h
  exact misses_any h2
theorem HomeG.blocks (h : HomeG src w0 w p C) : Calls Try.prog 16 #[.pointer (some ⟨p, 0, none⟩)] w fun e w' => ∃ v, e = .returned v ∧ Hid (SlI w' v (keys C.L)) ∧ Hid (HomeG src w0 w' p C) := by
  have h' := h
  obtain ⟨S, h1, h2, h3⟩ := h
  exact (blocks_any h2).mono fun e w' ⟨v, he, hr, hb⟩ => ⟨v, he, SlI.of_own hr, h'.below hb⟩
theorem new_home (m : Nat) (w0 w : World) (hb : Below w0.heap.size w0 w) (h1 : 1 ≤ m) (h2 : m ≤ 1024) :
    Calls Try.prog 10 #[src0, .int .i64 (m : Int)] w fun e w' => ∃ p, e = .returned (.tuple #[.pointer (some ⟨p, 0, none⟩), .int .i64 0]) ∧ Hid (Home w0 w' p (CS.new m)) :=
  (new_yes _ _ m w h1 h2).mono fun e w' ⟨p, he, S, hS, hc, hb'⟩ => ⟨p, he, S, fun k hk => Nat.le_trans hb.size (hS k hk), hc, hb.trans (hb'.mono hb.size)⟩
end
end Go.Proofs.Yteeoglfgilabaaa
/- The chapter's examples: shown returns true. -/
namespace Go.Proofs.Yteeoglfgilabaaa
open Go.RowKit

abbrev sh1 : CS := ⟨[⟨1, fl 1, false, 0⟩], 2, 1⟩
abbrev sh2 : CS := ⟨[⟨2, fl 2, false, 0⟩, ⟨1, fl 1, false, 0⟩], 2, 2⟩
abbrev sh3 : CS := ⟨[⟨1, fl 1, false, 0⟩, ⟨2, fl 2, false, 0⟩], 2, 2⟩
abbrev sh4 : CS := ⟨[⟨3, fl 3, false, 0⟩, ⟨1, fl 1, false, 0⟩], 2, 3⟩
abbrev sh5 : CS := ⟨[⟨3, fl 3, false, 0⟩, ⟨1, fl 1, false, 1⟩], 2, 3⟩
abbrev sh6 : CS := ⟨[⟨3, fl 120, true, 0⟩, ⟨1, fl 1, false, 1⟩], 2, 3⟩
abbrev sh7 : CS := ⟨[⟨3, fl 120, false, 0⟩, ⟨1, fl 1, false, 1⟩], 2, 3⟩
abbrev sh8 : CS := ⟨[⟨4, fl 4, false, 0⟩, ⟨1, fl 1, false, 1⟩], 2, 4⟩
theorem told_in (i : Int) (h : 0 ≤ i ∧ i < 200) : told i = fl i ∧ toldE i = 0 := by
  unfold told toldE; rw [if_neg (by omega), if_neg (by omega)]; exact ⟨rfl, rfl⟩
theorem m1 : (CS.new 2).get 1 (fl 1) 0 = ((fl 1, 0), sh1) := by rfl
theorem m2 : sh1.get 2 (fl 2) 0 = ((fl 2, 0), sh2) := by rfl
theorem m3 : sh2.get 1 (fl 1) 0 = ((fl 1, 0), sh3) := by rfl
theorem m4 : sh3.get 3 (fl 3) 0 = ((fl 3, 0), sh4) := by rfl
theorem m5 : sh4.pin 1 = (0, sh5) := by rfl
theorem m6 : sh5.put 3 (fl 120) = (0, sh6) := by unfold CS.put; rw [if_neg (by rw [fl_size]; simp)]; rfl
theorem m7 : sh6.get 4 (fl 4) 0 = ((⟨#[]⟩, 14), sh6) := by rfl
theorem m8 : sh6.clean = sh7 := by rfl
theorem m9 : sh7.get 4 (fl 4) 0 = ((fl 4, 0), sh8) := by rfl
theorem m10 : sh8.unpin 4 = (14, sh8) := by rfl
theorem m11 : sh8.unpin 9 = (10, sh8) := by rfl
section
variable {w0 w w' : World} {p : Nat} {C C' : CS}
theorem Home.got (i : Int) (hi : 0 ≤ i ∧ i < 200) (h : Home w0 w p C) (hms : C.misses < 1000000) {s : ByteArray} {e : Int} (hg : C.get i (fl i) 0 = ((s, e), C')) :
    Calls Try.prog 22 #[.pointer (some ⟨p, 0, none⟩), .int .i64 i] w fun x w' => x = .returned (.tuple #[.string s, .int .i64 e]) ∧ Hid (Home w0 w' p C') := by
  have := Home.get h i (by omega) hms
  rw [(told_in i hi).1, (told_in i hi).2, hg] at this
  exact this
theorem SlI.two {w : World} {v : Value} {a b : Int} (h : SlI w v [a, b]) : ∃ g c, v = .slice (some ⟨g, 0, none⟩) 2 c ∧ w.cell? ⟨g, 0, none⟩ = some (.int .i64 a) ∧ w.cell? ⟨g, 1, none⟩ = some (.int .i64 b) ∧ g < w.heap.size := by
  obtain ⟨ao, c, hv, h⟩ := h
  rcases h with h | ⟨g, e, hlt, hc⟩
  · cases h
  · exact ⟨g, c, by rw [hv, e]; rfl, hc 0 (by simp), hc 1 (by simp), hlt⟩
set_option maxRecDepth 100000 in
set_option maxHeartbeats 4000000 in
theorem shown_any (w : World) : Calls Try.prog 9 #[] w fun e w' => e = .returned (.bool true) ∧ Hid (Below w.heap.size w w') := by
  have HN : Hid (Calls Try.prog 10 #[src0, .int .i64 2] w fun e w' => ∃ p, e = .returned (.tuple #[.pointer (some ⟨p, 0, none⟩), .int .i64 0]) ∧ Hid (Home w w' p (CS.new 2))) := new_home 2 w w (Below.refl _ _) (by omega) (by omega)
  have HZ : Hid (∀ W, Calls Try.prog 10 #[src0, .int .i64 0] W fun e w' => e = .returned (.tuple #[.pointer none, .int .i64 2]) ∧ W = w') := fun W => new_no _ _ 0 W (by omega)
  have HF : Hid (∀ c W, Calls Try.prog 20 #[.int .u8 c] W fun e w' => e = .returned (.string (fl c)) ∧ Hid (Below W.heap.size W w')) := fun c W => full_any c W
  have M1 := Lib.hid m1; have M2 := Lib.hid m2; have M3 := Lib.hid m3; have M4 := Lib.hid m4; have M5 := Lib.hid m5; have M6 := Lib.hid m6; have M7 := Lib.hid m7; have M8 := Lib.hid m8; have M9 := Lib.hid m9; have M10 := Lib.hid m10; have M11 := Lib.hid m11
  go_enter Try.func9, Try.ntmps9
  go_wp2_with fail
  refine HN.out.mono ?_
  rintro e w1 ⟨p, rfl, h0⟩
  go_wp2_with fail
  refine (HZ.out _).mono ?_
  rintro e w1' ⟨rfl, rfl⟩
  have G := Lib.hid (Home.got 1 (by omega) h0.out (by decide) m1)
  clear HN HZ h0
  go_wp2_with fail
  refine G.out.mono ?_
  rintro e w2 ⟨rfl, h1⟩
  clear G
  have G := Lib.hid (Home.got 2 (by omega) h1.out (by decide) m2)
  clear h1
  go_wp2_with fail
  refine G.out.mono ?_
  rintro e w3 ⟨rfl, h2⟩
  clear G
  have G := Lib.hid (Home.got 1 (by omega) h2.out (by decide) m3)
  clear h2
  go_wp2_with fail
  refine G.out.mono ?_
  rintro e w4 ⟨rfl, h3⟩
  clear G
  have G := Lib.hid (Home.got 3 (by omega) h3.out (by decide) m4)
  clear h3
  go_wp2_with fail
  refine G.out.mono ?_
  rintro e w5 ⟨rfl, h4⟩
  clear G
  have G := Lib.hid h4.out.blocks
  go_wp2_with fail
  refine G.out.mono ?_
  rintro e w6 ⟨v, rfl, hv, h5⟩
  clear G h4
  obtain ⟨g, c, rfl, g0, g1, hgl⟩ := SlI.two (a := 3) (b := 1) hv.out
  clear hv
  go_wp2_with fail
  refine (HF.out 3 _).mono ?_
  rintro e w7 ⟨rfl, hb⟩
  have h6 := Lib.hid (h5.out.below hb.out)
  have g0' := (hb.out.cell (p := ⟨g, 0, none⟩) hgl).trans g0
  have g1' := (hb.out.cell (p := ⟨g, 1, none⟩) hgl).trans g1
  clear g0 g1 hgl hb h5
  have G := Lib.hid h6.out.misses
  go_wp2_with fail
  refine G.out.mono ?_
  rintro e w8 ⟨rfl, rfl⟩
  clear G g0' g1'
  have G := Lib.hid (h6.out.pin 1 (by omega) (by decide))
  rw [M5.out] at G
  clear h6
  go_wp2_with fail
  refine G.out.mono ?_
  rintro e w8 ⟨rfl, h7⟩
  clear G
  go_wp2_with fail
  refine (HF.out 120 _).mono ?_
  rintro e w9 ⟨rfl, hb⟩
  have h8 := Lib.hid (h7.out.below hb.out)
  clear h7 hb
  have G := Lib.hid (h8.out.put 3 (by omega) (fl 120))
  rw [M6.out] at G
  clear h8
  go_wp2_with fail
  refine G.out.mono ?_
  rintro e w10 ⟨rfl, h9⟩
  clear G
  have G := Lib.hid (Home.got 4 (by omega) h9.out (by decide) m7)
  clear h9
  go_wp2_with fail
  refine G.out.mono ?_
  rintro e w11 ⟨rfl, h10⟩
  clear G
  have G := Lib.hid h10.out.clean
  rw [M8.out] at G
  clear h10
  go_wp2_with fail
  refine G.out.mono ?_
  rintro e w12 ⟨rfl, h11⟩
  clear G
  have G := Lib.hid (Home.got 4 (by omega) h11.out (by decide) m9)
  clear h11
  go_wp2_with fail
  refine G.out.mono ?_
  rintro e w13 ⟨rfl, h12⟩
  clear G
  have G := Lib.hid h12.out.blocks
  go_wp2_with fail
  refine G.out.mono ?_
  rintro e w14 ⟨v, rfl, hv, h13⟩
  clear G h12
  obtain ⟨g, c, rfl, g0, g1, hgl⟩ := SlI.two (a := 4) (b := 1) hv.out
  clear hv hgl
  have G := Lib.hid (h13.out.unpin 4 (by omega))
  rw [M10.out] at G
  clear h13
  go_wp2_with fail
  refine G.out.mono ?_
  rintro e w15 ⟨rfl, h14⟩
  clear G g0 g1
  have G := Lib.hid (h14.out.unpin 9 (by omega))
  rw [M11.out] at G
  clear h14
  go_wp2_with fail
  refine G.out.mono ?_
  rintro e w16 ⟨rfl, h15⟩
  clear G
  go_wp2
  go_ret
  exact ⟨rfl, h15.out.bel⟩
end
end Go.Proofs.Yteeoglfgilabaaa
