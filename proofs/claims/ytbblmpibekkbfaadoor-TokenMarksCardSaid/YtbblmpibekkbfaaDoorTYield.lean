/- The program's calls of yield(pos, s[start:at]) and yield(pos, s[start:]): in whatever order the loads come up. -/
import Derived.Test.YtbblmpibekkbfaaDoorUAppR
import Derived.Test.YtbblmpibekkbfaaDoorTRange
namespace Go.Proofs.YtbblmpibekkbfaaDoor
open Go.RowKit
open Fr (ownSlots waitsOf backwards all_up shapeOf shape_at shape_is left_set left_new)

theorem getD_setT (t : Array Value) (i : Nat) (v : Value) (d : Nat) : (t.setIfInBounds i v).getD d undef = if d = i ∧ i < t.size then v else t.getD d undef := by
  rw [Array.getD_eq_getD_getElem?, Array.getElem?_setIfInBounds, Array.getD_eq_getD_getElem?]
  by_cases h : i = d
  · subst h
    by_cases h2 : i < t.size
    · rw [if_pos rfl, if_pos h2, if_pos ⟨rfl, h2⟩]; rfl
    · rw [if_pos rfl, if_neg h2, if_neg (fun h => h2 h.2), Array.getElem?_eq_none (by omega)]
  · rw [if_neg h, if_neg (fun h' => h h'.1.symm)]

section
variable {F : Fence} {n : Nat} {P : Program} {ops : Array Oper} {Q : Exit → Act → World → Prop}
theorem stepF_val (hf : ∀ f, F.fn f) {i : Nat} {o : Oper} {K : Act → World → Prop} {a : Act} {w w' : World} {v : Value} (hi : ops[i]? = some o) (hg : o.guard = none) (hd : ∀ c, o.op ≠ .defer c) (hr : (execOp a.eval o).run P w = .ok (.value v) w') (h : K (a.put o.dst v) w') : wpOpIn F n P ops Q i K a w := by
  unfold wpOpIn
  simp only [hi, Region.wanted, hg, if_true]
  refine ⟨fun _ _ => hf _, ?_⟩
  rw [Oper.semAt_eq _ _ _ hd, hr]
  exact h
theorem stepF_round (hf : ∀ f, F.fn f) (hdp : F.depth = none) {i : Nat} {o : Oper} {K : Act → World → Prop} {a : Act} {w : World} {v : Value} {l : Nat} {f : FuncId} {tmps : Array Value} {assign body : Code} {G : World → Prop} (hi : ops[i]? = some o) (hg : o.guard = none) (hd : ∀ c, o.op ≠ .defer c) (hr : (execOp a.eval o).run P w = .ok (.round l f tmps assign body) w)
    (hR : RoundIn F 0 P l f tmps assign body w fun e w' => e = .returned v ∧ G w') (h : ∀ w', G w' → K (a.put o.dst v) w') : wpOpIn F n P ops Q i K a w := by
  unfold wpOpIn
  simp only [hi, Region.wanted, hg, if_true]
  refine ⟨fun _ _ => hf _, ?_⟩
  rw [Oper.semAt_eq _ _ _ hd, hr]
  refine ⟨fun hd' => (by rw [hdp] at hd'; cases hd'), RoundIn.mono (round_any hdp hR) fun e w' ⟨he, hF⟩ => ?_⟩
  subst he
  exact h w' hF
end
/-- The frame on the way, its deferred calls let be. -/
structure FmD (ds : List Deferred) (ops : Array Oper) (T : Array Value) (base : List Nat) (listed : Array Bool) (a : Act) : Prop where
  fm : Fm ops T base listed { tmps := a.tmps, defers := [] }
  ds : a.defers = ds
theorem FmD.put {ds : List Deferred} {ops : Array Oper} {T : Array Value} {base : List Nat} {listed : Array Bool} {a : Act} (h : FmD ds ops T base listed a) (hown : ownSlots ops base T.size = true) {i : Nat} {o : Oper} {d : Nat} (hi : ops[i]? = some o) (hd : o.dst = some d) {v : Value} (hv : v = T.getD d undef) : FmD ds ops T base (listed.setIfInBounds i true) (a.put o.dst v) := by
  have := h.fm.put hown hi hd hv
  rw [hd] at this ⊢
  exact ⟨this, h.ds⟩
/-- The world on the way: what was listed waited for nothing; the call (number c) has not come up, or G. -/
def YW (ops : Array Oper) (W : World) (c : Nat) (G : World → Prop) (listed : Array Bool) (w : World) : Prop :=
  (∀ i j, waitsOf ops i j = true → listed.getD i false = true → listed.getD j false = true) ∧ ((listed.getD c false = false ∧ w = W.drew) ∨ (listed.getD c false = true ∧ G w))
theorem listed_or {listed : Array Bool} {i j : Nat} (h : (listed.setIfInBounds i true).getD j false = true) : j = i ∨ listed.getD j false = true := by
  by_cases e : j = i
  · exact .inl e
  · rw [getD_other e] at h; exact .inr h
theorem waits_up {ops : Array Oper} {listed : Array Bool} {i : Nat} (hr : i ∈ Region.ready .any ops listed) (h : ∀ i j, waitsOf ops i j = true → listed.getD i false = true → listed.getD j false = true) : ∀ p j, waitsOf ops p j = true → (listed.setIfInBounds i true).getD p false = true → (listed.setIfInBounds i true).getD j false = true := by
  intro p j hw hl
  rcases listed_or hl with rfl | hl
  · exact still_listed (wait_listed hr hw)
  · exact still_listed (h p j hw hl)
theorem YW.keep {ops : Array Oper} {W w : World} {c : Nat} {G : World → Prop} {listed : Array Bool} (h : YW ops W c G listed w) {i : Nat} (hr : i ∈ Region.ready .any ops listed) (hc : i ≠ c) : YW ops W c G (listed.setIfInBounds i true) w := by
  refine ⟨waits_up hr h.1, ?_⟩
  rw [getD_other (Ne.symm hc)]
  exact h.2
theorem YW.called {ops : Array Oper} {W w w' : World} {c : Nat} {G : World → Prop} {listed : Array Bool} (h : YW ops W c G listed w) (hr : c ∈ Region.ready .any ops listed) (hl : c < listed.size) (hG : G w') : YW ops W c G (listed.setIfInBounds c true) w' :=
  ⟨waits_up hr h.1, .inr ⟨listed_set hl, hG⟩⟩

def shapeA : List (Option Tmp × Op × Bool) := [
  (some 27, .load 51 (.tmp 2), true), (some 28, .load 3 (.tmp 3), true), (some 29, .load 9 (.tmp 1), true), (some 30, .load 3 (.tmp 4), true), (some 31, .move (.tmp 6), true), (some 32, .slice 9 (.tmp 29) (some (.tmp 30)) (some (.tmp 31)) none, true), (some 33, .call { callee := .value (.tmp 27), args := #[.tmp 28, .tmp 32], argTypes := #[3, 9] }, true), (some 34, .unOp .not 4 (.tmp 33), true)]
def frameA (t : Array Value) (lY k st en : Nat) (s X : ByteArray) : Array Value := ((((((((t.setIfInBounds 27 (.func (.yield lY) #[] #[])).setIfInBounds 28 (.int .i64 (k : Int))).setIfInBounds 29 (.string s)).setIfInBounds 30 (.int .i64 (st : Int))).setIfInBounds 31 (.int .i64 (en : Int))).setIfInBounds 32 (.string X)).setIfInBounds 33 (.bool true)).setIfInBounds 34 (.bool false))
theorem frameA_size (t : Array Value) (lY k st en : Nat) (s X : ByteArray) : (frameA t lY k st en s X).size = t.size := by simp [frameA]
theorem frameA_at (t : Array Value) (lY k st en : Nat) (s X : ByteArray) (h : t.size = 44) (d : Nat) : (frameA t lY k st en s X).getD d undef = if d = 34 then .bool false else if d = 33 then .bool true else if d = 32 then .string X else if d = 31 then .int .i64 (en : Int) else if d = 30 then .int .i64 (st : Int) else if d = 29 then .string s else if d = 28 then .int .i64 (k : Int) else if d = 27 then .func (.yield lY) #[] #[] else t.getD d undef := by
  unfold frameA
  rw [getD_setT, getD_setT, getD_setT, getD_setT, getD_setT, getD_setT, getD_setT, getD_setT]
  simp only [Array.size_setIfInBounds, h, Nat.reduceLT, and_true]
def baseA : List Nat := List.range 27 ++ List.range' 35 9
theorem mem_baseA {d : Nat} (h : d < 27) : d ∈ baseA := List.mem_append_left _ (List.mem_range.2 h)
section
variable {F : Fence} {n : Nat} {ops : Array Oper} {W : World} {lY Bs By Bp Bt k st en : Nat} {s X : ByteArray} {G : World → Prop} {ds : List Deferred}
set_option maxRecDepth 100000 in
set_option maxHeartbeats 2000000 in
theorem regionA (hf : ∀ f, F.fn f) (hdp : F.depth = none) {id : Nat} {a : Act} (hm : Tryd.prog.follows .mixedOrders = true) (hsh : ops.toList.map shapeOf = shapeA) (hown : ownSlots ops baseA 44 = true) (hback : backwards ops = true)
    (hw52 : waitsOf ops 5 2 = true) (hw53 : waitsOf ops 5 3 = true) (hw54 : waitsOf ops 5 4 = true) (hw60 : waitsOf ops 6 0 = true) (hw61 : waitsOf ops 6 1 = true) (hw65 : waitsOf ops 6 5 = true) (hw76 : waitsOf ops 7 6 = true)
    (a1 : a.tmps.getD 1 undef = .pointer (some ⟨Bs, 0, none⟩)) (a2 : a.tmps.getD 2 undef = .pointer (some ⟨By, 0, none⟩)) (a3 : a.tmps.getD 3 undef = .pointer (some ⟨Bp, 0, none⟩)) (a4 : a.tmps.getD 4 undef = .pointer (some ⟨Bt, 0, none⟩)) (a6 : a.tmps.getD 6 undef = .int .i64 (en : Int)) (ha : a.tmps.size = 44) (hdf : a.defers = ds)
    (cy : W.cell? ⟨By, 0, none⟩ = some (.func (.yield lY) #[] #[])) (cp : W.cell? ⟨Bp, 0, none⟩ = some (.int .i64 (k : Int))) (cs : W.cell? ⟨Bs, 0, none⟩ = some (.string s)) (ct : W.cell? ⟨Bt, 0, none⟩ = some (.int .i64 (st : Int)))
    (hst : st ≤ en) (hen : en ≤ s.size) (hX : s.extract st en = X) (hss : s.size ≤ 100000)
    (hy : YieldAt F 0 Tryd.prog lY #[.int .i64 (k : Int), .string X] W.drew fun e w' => e = .returned (.bool true) ∧ G w') :
    (Code.region id ops true).wpIn F n Tryd.prog (fun e a' w' => e = .normal ∧ a' = { tmps := frameA a.tmps lY k st en s X, defers := ds } ∧ G w') a W := by
  have hsz : ops.size = 8 := by have := congrArg List.length hsh; simpa [shapeA] using this
  obtain ⟨T, hT⟩ : ∃ T, frameA a.tmps lY k st en s X = T := ⟨_, rfl⟩
  have TS : T.size = 44 := by rw [← hT, frameA_size, ha]
  have TA := frameA_at a.tmps lY k st en s X ha
  simp only [hT] at TA
  have hba : ∀ d ∈ baseA, a.tmps.getD d undef = T.getD d undef := fun d hd => by
    have : d < 27 ∨ 35 ≤ d := by
      rcases List.mem_append.1 hd with h | h
      · exact .inl (List.mem_range.1 h)
      · exact .inr (by have := (List.mem_range'_1.1 h).1; omega)
    rw [TA, if_neg (by omega), if_neg (by omega), if_neg (by omega), if_neg (by omega), if_neg (by omega), if_neg (by omega), if_neg (by omega), if_neg (by omega)]
  have T1 : T.getD 1 undef = .pointer (some ⟨Bs, 0, none⟩) := by rw [← hba 1 (mem_baseA (by omega))]; exact a1
  have T2 : T.getD 2 undef = .pointer (some ⟨By, 0, none⟩) := by rw [← hba 2 (mem_baseA (by omega))]; exact a2
  have T3 : T.getD 3 undef = .pointer (some ⟨Bp, 0, none⟩) := by rw [← hba 3 (mem_baseA (by omega))]; exact a3
  have T4 : T.getD 4 undef = .pointer (some ⟨Bt, 0, none⟩) := by rw [← hba 4 (mem_baseA (by omega))]; exact a4
  have T6 : T.getD 6 undef = .int .i64 (en : Int) := by rw [← hba 6 (mem_baseA (by omega))]; exact a6
  have T27 : T.getD 27 undef = .func (.yield lY) #[] #[] := TA 27
  have T28 : T.getD 28 undef = .int .i64 (k : Int) := TA 28
  have T29 : T.getD 29 undef = .string s := TA 29
  have T30 : T.getD 30 undef = .int .i64 (st : Int) := TA 30
  have T31 : T.getD 31 undef = .int .i64 (en : Int) := TA 31
  have T32 : T.getD 32 undef = .string X := TA 32
  have T33 : T.getD 33 undef = .bool true := TA 33
  have T34 : T.getD 34 undef = .bool false := TA 34
  rw [hT]
  clear TA
  refine wpIn_region_inv hm (fun listed a w => FmD ds ops T baseA listed a ∧ YW ops W 6 G listed w) ⟨⟨⟨by rw [TS]; exact ha, rfl, hba, fun i o d hi hl => ?_, by simp⟩, hdf⟩, fun i j _ hl => (by rw [rep_getD] at hl; cases hl), .inl ⟨rep_getD _ _, rfl⟩⟩ ?_ ?_
  · have hlt := (Array.getElem?_eq_some_iff.1 hi).1
    simp [hlt] at hl
  · rintro listed b w ⟨h, hW⟩ i hr
    obtain ⟨hun, op0, ho, hready⟩ := mem_ready.1 hr
    have hown' : ownSlots ops baseA T.size = true := by rw [TS]; exact hown
    have hlt : i < 8 := by have := (Array.getElem?_eq_some_iff.1 ho).1; omega
    have nodef : ∀ {op : Op}, op0.op = op → (∀ c, op ≠ .defer c) → ∀ c, op0.op ≠ .defer c := fun e h c => by rw [e]; exact h c
    have early : i < 6 → w = W.drew := fun h7 => by
      rcases hW.2 with ⟨_, h'⟩ | ⟨h6, _⟩
      · exact h'
      · exfalso
        have l0 := hW.1 6 0 hw60 h6
        have l1 := hW.1 6 1 hw61 h6
        have l5 := hW.1 6 5 hw65 h6
        have l2 := hW.1 5 2 hw52 l5
        have l3 := hW.1 5 3 hw53 l5
        have l4 := hW.1 5 4 hw54 l5
        have hno := not_listed hun
        match i, h7 with
        | 0, _ => rw [l0] at hno; cases hno
        | 1, _ => rw [l1] at hno; cases hno
        | 2, _ => rw [l2] at hno; cases hno
        | 3, _ => rw [l3] at hno; cases hno
        | 4, _ => rw [l4] at hno; cases hno
        | 5, _ => rw [l5] at hno; cases hno
    have val : ∀ {d : Nat} {op : Op} {u : Value}, shapeA[i]? = some (some d, op, true) → (∀ c, op ≠ .defer c) → (op0.op = op → (execOp b.eval op0).run Tryd.prog w = .ok (.value u) w) → u = T.getD d undef → i ≠ 6 →
        wpOpIn F n Tryd.prog ops (fun e a' w' => e = .normal ∧ a' = { tmps := T, defers := ds } ∧ G w') i (fun a' w' => FmD ds ops T baseA (listed.setIfInBounds i true) a' ∧ YW ops W 6 G (listed.setIfInBounds i true) w') b w := by
      intro d op u hl hnd hr' hv h7
      obtain ⟨e1, e2, e3⟩ := shape_is hsh ho hl
      exact stepF_val hf ho e3 (nodef e2 hnd) (hr' e2) ⟨h.put hown' ho e1 hv, hW.keep hr h7⟩
    match i, hlt with
    | 0, _ =>
      obtain rfl := early (by omega)
      refine val (d := 27) (u := .func (.yield lY) #[] #[]) rfl (fun c => by simp) (fun hop => ?_) T27.symm (by omega)
      have hv : b.tmps.getD 2 undef = .pointer (some ⟨By, 0, none⟩) := (h.fm.base 2 (mem_baseA (by omega))).trans T2
      unfold execOp; simp only [hop, Act.eval]; rw [hv]
      go_simp
    | 1, _ =>
      obtain rfl := early (by omega)
      refine val (d := 28) (u := .int .i64 (k : Int)) rfl (fun c => by simp) (fun hop => ?_) T28.symm (by omega)
      have hv : b.tmps.getD 3 undef = .pointer (some ⟨Bp, 0, none⟩) := (h.fm.base 3 (mem_baseA (by omega))).trans T3
      unfold execOp; simp only [hop, Act.eval]; rw [hv]
      go_simp
    | 2, _ =>
      obtain rfl := early (by omega)
      refine val (d := 29) (u := .string s) rfl (fun c => by simp) (fun hop => ?_) T29.symm (by omega)
      have hv : b.tmps.getD 1 undef = .pointer (some ⟨Bs, 0, none⟩) := (h.fm.base 1 (mem_baseA (by omega))).trans T1
      unfold execOp; simp only [hop, Act.eval]; rw [hv]
      go_simp
    | 3, _ =>
      obtain rfl := early (by omega)
      refine val (d := 30) (u := .int .i64 (st : Int)) rfl (fun c => by simp) (fun hop => ?_) T30.symm (by omega)
      have hv : b.tmps.getD 4 undef = .pointer (some ⟨Bt, 0, none⟩) := (h.fm.base 4 (mem_baseA (by omega))).trans T4
      unfold execOp; simp only [hop, Act.eval]; rw [hv]
      go_simp
    | 4, _ =>
      refine val (d := 31) (u := .int .i64 (en : Int)) rfl (fun c => by simp) (fun hop => ?_) T31.symm (by omega)
      have hv : b.tmps.getD 6 undef = .int .i64 (en : Int) := (h.fm.base 6 (mem_baseA (by omega))).trans T6
      unfold execOp; simp only [hop, Act.eval]; rw [hv]
      go_simp
    | 5, _ =>
      refine val (d := 32) (u := .string X) rfl (fun c => by simp) (fun hop => ?_) T32.symm (by omega)
      have hv1 : b.tmps.getD 29 undef = .string s := (h.fm.seen hsh hr 2 rfl hw52).trans T29
      have hv2 : b.tmps.getD 30 undef = .int .i64 (st : Int) := (h.fm.seen hsh hr 3 rfl hw53).trans T30
      have hv3 : b.tmps.getD 31 undef = .int .i64 (en : Int) := (h.fm.seen hsh hr 4 rfl hw54).trans T31
      have g0 : (0 : Int) ≤ (st : Int) := by omega
      have g1 : (st : Int) ≤ (s.size : Int) := by omega
      have g2 : (en : Int) ≤ (s.size : Int) := by omega
      have g3 : (0 : Int) ≤ (en : Int) := by omega
      have g4 : (st : Int) ≤ (en : Int) := by omega
      unfold execOp; simp only [hop, Act.eval, Option.map_some, Option.map_none, hv1, hv2, hv3]
      go_simp
    | 6, _ =>
      obtain ⟨e1, e2, e3⟩ := shape_is hsh ho (l := shapeA) (show shapeA[6]? = _ from rfl)
      have hv1 : b.tmps.getD 27 undef = .func (.yield lY) #[] #[] := (h.fm.seen hsh hr 0 rfl hw60).trans T27
      have hv2 : b.tmps.getD 28 undef = .int .i64 (k : Int) := (h.fm.seen hsh hr 1 rfl hw61).trans T28
      have hv3 : b.tmps.getD 32 undef = .string X := (h.fm.seen hsh hr 5 rfl hw65).trans T32
      obtain rfl : w = W.drew := by
        rcases hW.2 with ⟨_, h'⟩ | ⟨h', _⟩
        · exact h'
        · rw [not_listed hun] at h'; cases h'
      obtain ⟨fn, tmps, assign, body, hy1, hy2⟩ := hy
      refine stepF_round hf hdp ho e3 (nodef e2 (fun c => by simp)) (l := lY) (f := fn) (tmps := tmps) (assign := assign) (body := body) ?_ hy2 fun w' hG => ⟨h.put hown' ho e1 T33.symm, hW.called hr (by rw [h.fm.lsize]; omega) hG⟩
      unfold execOp; simp only [e2, Act.eval, hv1, hv2, hv3]
      go_simp
    | 7, _ =>
      refine val (d := 34) (u := .bool false) rfl (fun c => by simp) (fun hop => ?_) T34.symm (by omega)
      have hv : b.tmps.getD 33 undef = .bool true := (h.fm.seen hsh hr 6 rfl hw76).trans T33
      unfold execOp; simp only [hop, Act.eval]; rw [hv]
      go_simp
  · rintro listed b w ⟨h, hW⟩ hr
    have hup := all_up hback h.fm.lsize hr
    have hT2 : b.tmps = T := by
      apply Array.ext h.fm.size
      intro d h1 h2
      have : b.tmps.getD d undef = T.getD d undef := by
        by_cases hd : d < 27 ∨ 35 ≤ d
        · refine h.fm.base d ?_
          rcases hd with hd | hd
          · exact List.mem_append_left _ (List.mem_range.2 hd)
          · exact List.mem_append_right _ (List.mem_range'_1.2 ⟨hd, by omega⟩)
        · have hdec : ∀ i, i < 8 → (shapeA[i]?).map (·.1) = some (some (27 + i)) := by decide
          have h1 := hdec (d - 27) (by omega)
          rw [← hsh, List.getElem?_map, Array.getElem?_toList] at h1
          cases ho : ops[d - 27]? with
          | none => rw [ho] at h1; cases h1
          | some op0 =>
            rw [ho] at h1
            simp only [Option.map_some, Option.some.injEq, shapeOf] at h1
            exact h.fm.up (d - 27) op0 d ho (hup (d - 27) (by omega)) (by rw [h1, Nat.add_sub_cancel' (by omega)])
      simpa [h1, h2] using this
    refine ⟨rfl, ?_, ?_⟩
    · have := h.ds
      cases b; simp at this hT2 ⊢; exact ⟨hT2, this⟩
    · rcases hW.2 with ⟨h7, _⟩ | ⟨_, h'⟩
      · rw [hup 6 (by omega)] at h7; cases h7
      · exact h'
end
def shapeB : List (Option Tmp × Op × Bool) := [
  (some 38, .load 51 (.tmp 2), true), (some 39, .load 3 (.tmp 3), true), (some 40, .load 9 (.tmp 1), true), (some 41, .load 3 (.tmp 4), true), (some 42, .slice 9 (.tmp 40) (some (.tmp 41)) none none, true), (some 43, .call { callee := .value (.tmp 38), args := #[.tmp 39, .tmp 42], argTypes := #[3, 9] }, true)]
def frameB (t : Array Value) (lY k st : Nat) (s X : ByteArray) : Array Value := ((((((t.setIfInBounds 38 (.func (.yield lY) #[] #[])).setIfInBounds 39 (.int .i64 (k : Int))).setIfInBounds 40 (.string s)).setIfInBounds 41 (.int .i64 (st : Int))).setIfInBounds 42 (.string X)).setIfInBounds 43 (.bool true))
theorem frameB_size (t : Array Value) (lY k st : Nat) (s X : ByteArray) : (frameB t lY k st s X).size = t.size := by simp [frameB]
theorem frameB_at (t : Array Value) (lY k st : Nat) (s X : ByteArray) (h : t.size = 44) (d : Nat) : (frameB t lY k st s X).getD d undef = if d = 43 then .bool true else if d = 42 then .string X else if d = 41 then .int .i64 (st : Int) else if d = 40 then .string s else if d = 39 then .int .i64 (k : Int) else if d = 38 then .func (.yield lY) #[] #[] else t.getD d undef := by
  unfold frameB
  rw [getD_setT, getD_setT, getD_setT, getD_setT, getD_setT, getD_setT]
  simp only [Array.size_setIfInBounds, h, Nat.reduceLT, and_true]
def baseB : List Nat := List.range 38
theorem mem_baseB {d : Nat} (h : d < 38) : d ∈ baseB := List.mem_range.2 h
section
variable {F : Fence} {n : Nat} {ops : Array Oper} {W : World} {lY Bs By Bp Bt k st en : Nat} {s X : ByteArray} {G : World → Prop} {ds : List Deferred}
set_option maxRecDepth 100000 in
set_option maxHeartbeats 2000000 in
theorem regionB (hf : ∀ f, F.fn f) (hdp : F.depth = none) {id : Nat} {a : Act} (hm : Tryd.prog.follows .mixedOrders = true) (hsh : ops.toList.map shapeOf = shapeB) (hown : ownSlots ops baseB 44 = true) (hback : backwards ops = true)
    (hw42 : waitsOf ops 4 2 = true) (hw43 : waitsOf ops 4 3 = true) (hw50 : waitsOf ops 5 0 = true) (hw51 : waitsOf ops 5 1 = true) (hw54 : waitsOf ops 5 4 = true)
    (a1 : a.tmps.getD 1 undef = .pointer (some ⟨Bs, 0, none⟩)) (a2 : a.tmps.getD 2 undef = .pointer (some ⟨By, 0, none⟩)) (a3 : a.tmps.getD 3 undef = .pointer (some ⟨Bp, 0, none⟩)) (a4 : a.tmps.getD 4 undef = .pointer (some ⟨Bt, 0, none⟩)) (ha : a.tmps.size = 44) (hdf : a.defers = ds)
    (cy : W.cell? ⟨By, 0, none⟩ = some (.func (.yield lY) #[] #[])) (cp : W.cell? ⟨Bp, 0, none⟩ = some (.int .i64 (k : Int))) (cs : W.cell? ⟨Bs, 0, none⟩ = some (.string s)) (ct : W.cell? ⟨Bt, 0, none⟩ = some (.int .i64 (st : Int)))
    (hst : st ≤ s.size) (hX : s.extract st s.size = X) (hss : s.size ≤ 100000)
    (hy : YieldAt F 0 Tryd.prog lY #[.int .i64 (k : Int), .string X] W.drew fun e w' => e = .returned (.bool true) ∧ G w') :
    (Code.region id ops true).wpIn F n Tryd.prog (fun e a' w' => e = .normal ∧ a' = { tmps := frameB a.tmps lY k st s X, defers := ds } ∧ G w') a W := by
  have hsz : ops.size = 6 := by have := congrArg List.length hsh; simpa [shapeB] using this
  obtain ⟨T, hT⟩ : ∃ T, frameB a.tmps lY k st s X = T := ⟨_, rfl⟩
  have TS : T.size = 44 := by rw [← hT, frameB_size, ha]
  have TA := frameB_at a.tmps lY k st s X ha
  simp only [hT] at TA
  have hba : ∀ d ∈ baseB, a.tmps.getD d undef = T.getD d undef := fun d hd => by
    have : d < 38 := List.mem_range.1 hd
    rw [TA, if_neg (by omega), if_neg (by omega), if_neg (by omega), if_neg (by omega), if_neg (by omega), if_neg (by omega)]
  have T1 : T.getD 1 undef = .pointer (some ⟨Bs, 0, none⟩) := by rw [← hba 1 (mem_baseB (by omega))]; exact a1
  have T2 : T.getD 2 undef = .pointer (some ⟨By, 0, none⟩) := by rw [← hba 2 (mem_baseB (by omega))]; exact a2
  have T3 : T.getD 3 undef = .pointer (some ⟨Bp, 0, none⟩) := by rw [← hba 3 (mem_baseB (by omega))]; exact a3
  have T4 : T.getD 4 undef = .pointer (some ⟨Bt, 0, none⟩) := by rw [← hba 4 (mem_baseB (by omega))]; exact a4
  have T38 : T.getD 38 undef = .func (.yield lY) #[] #[] := TA 38
  have T39 : T.getD 39 undef = .int .i64 (k : Int) := TA 39
  have T40 : T.getD 40 undef = .string s := TA 40
  have T41 : T.getD 41 undef = .int .i64 (st : Int) := TA 41
  have T42 : T.getD 42 undef = .string X := TA 42
  have T43 : T.getD 43 undef = .bool true := TA 43
  rw [hT]
  clear TA
  refine wpIn_region_inv hm (fun listed a w => FmD ds ops T baseB listed a ∧ YW ops W 5 G listed w) ⟨⟨⟨by rw [TS]; exact ha, rfl, hba, fun i o d hi hl => ?_, by simp⟩, hdf⟩, fun i j _ hl => (by rw [rep_getD] at hl; cases hl), .inl ⟨rep_getD _ _, rfl⟩⟩ ?_ ?_
  · have hlt := (Array.getElem?_eq_some_iff.1 hi).1
    simp [hlt] at hl
  · rintro listed b w ⟨h, hW⟩ i hr
    obtain ⟨hun, op0, ho, hready⟩ := mem_ready.1 hr
    have hown' : ownSlots ops baseB T.size = true := by rw [TS]; exact hown
    have hlt : i < 6 := by have := (Array.getElem?_eq_some_iff.1 ho).1; omega
    have nodef : ∀ {op : Op}, op0.op = op → (∀ c, op ≠ .defer c) → ∀ c, op0.op ≠ .defer c := fun e h c => by rw [e]; exact h c
    have early : i < 5 → w = W.drew := fun h7 => by
      rcases hW.2 with ⟨_, h'⟩ | ⟨h6, _⟩
      · exact h'
      · exfalso
        have l0 := hW.1 5 0 hw50 h6
        have l1 := hW.1 5 1 hw51 h6
        have l5 := hW.1 5 4 hw54 h6
        have l2 := hW.1 4 2 hw42 l5
        have l3 := hW.1 4 3 hw43 l5
        have hno := not_listed hun
        match i, h7 with
        | 0, _ => rw [l0] at hno; cases hno
        | 1, _ => rw [l1] at hno; cases hno
        | 2, _ => rw [l2] at hno; cases hno
        | 3, _ => rw [l3] at hno; cases hno
        | 4, _ => rw [l5] at hno; cases hno
    have val : ∀ {d : Nat} {op : Op} {u : Value}, shapeB[i]? = some (some d, op, true) → (∀ c, op ≠ .defer c) → (op0.op = op → (execOp b.eval op0).run Tryd.prog w = .ok (.value u) w) → u = T.getD d undef → i ≠ 5 →
        wpOpIn F n Tryd.prog ops (fun e a' w' => e = .normal ∧ a' = { tmps := T, defers := ds } ∧ G w') i (fun a' w' => FmD ds ops T baseB (listed.setIfInBounds i true) a' ∧ YW ops W 5 G (listed.setIfInBounds i true) w') b w := by
      intro d op u hl hnd hr' hv h7
      obtain ⟨e1, e2, e3⟩ := shape_is hsh ho hl
      exact stepF_val hf ho e3 (nodef e2 hnd) (hr' e2) ⟨h.put hown' ho e1 hv, hW.keep hr h7⟩
    match i, hlt with
    | 0, _ =>
      obtain rfl := early (by omega)
      refine val (d := 38) (u := .func (.yield lY) #[] #[]) rfl (fun c => by simp) (fun hop => ?_) T38.symm (by omega)
      have hv : b.tmps.getD 2 undef = .pointer (some ⟨By, 0, none⟩) := (h.fm.base 2 (mem_baseB (by omega))).trans T2
      unfold execOp; simp only [hop, Act.eval]; rw [hv]
      go_simp
    | 1, _ =>
      obtain rfl := early (by omega)
      refine val (d := 39) (u := .int .i64 (k : Int)) rfl (fun c => by simp) (fun hop => ?_) T39.symm (by omega)
      have hv : b.tmps.getD 3 undef = .pointer (some ⟨Bp, 0, none⟩) := (h.fm.base 3 (mem_baseB (by omega))).trans T3
      unfold execOp; simp only [hop, Act.eval]; rw [hv]
      go_simp
    | 2, _ =>
      obtain rfl := early (by omega)
      refine val (d := 40) (u := .string s) rfl (fun c => by simp) (fun hop => ?_) T40.symm (by omega)
      have hv : b.tmps.getD 1 undef = .pointer (some ⟨Bs, 0, none⟩) := (h.fm.base 1 (mem_baseB (by omega))).trans T1
      unfold execOp; simp only [hop, Act.eval]; rw [hv]
      go_simp
    | 3, _ =>
      obtain rfl := early (by omega)
      refine val (d := 41) (u := .int .i64 (st : Int)) rfl (fun c => by simp) (fun hop => ?_) T41.symm (by omega)
      have hv : b.tmps.getD 4 undef = .pointer (some ⟨Bt, 0, none⟩) := (h.fm.base 4 (mem_baseB (by omega))).trans T4
      unfold execOp; simp only [hop, Act.eval]; rw [hv]
      go_simp
    | 4, _ =>
      refine val (d := 42) (u := .string X) rfl (fun c => by simp) (fun hop => ?_) T42.symm (by omega)
      have hv1 : b.tmps.getD 40 undef = .string s := (h.fm.seen hsh hr 2 rfl hw42).trans T40
      have hv2 : b.tmps.getD 41 undef = .int .i64 (st : Int) := (h.fm.seen hsh hr 3 rfl hw43).trans T41
      have g0 : (0 : Int) ≤ (st : Int) := by omega
      have g1 : (st : Int) ≤ (s.size : Int) := by omega
      unfold execOp; simp only [hop, Act.eval, Option.map_some, Option.map_none, hv1, hv2]
      go_simp
    | 5, _ =>
      obtain ⟨e1, e2, e3⟩ := shape_is hsh ho (l := shapeB) (show shapeB[5]? = _ from rfl)
      have hv1 : b.tmps.getD 38 undef = .func (.yield lY) #[] #[] := (h.fm.seen hsh hr 0 rfl hw50).trans T38
      have hv2 : b.tmps.getD 39 undef = .int .i64 (k : Int) := (h.fm.seen hsh hr 1 rfl hw51).trans T39
      have hv3 : b.tmps.getD 42 undef = .string X := (h.fm.seen hsh hr 4 rfl hw54).trans T42
      obtain rfl : w = W.drew := by
        rcases hW.2 with ⟨_, h'⟩ | ⟨h', _⟩
        · exact h'
        · rw [not_listed hun] at h'; cases h'
      obtain ⟨fn, tmps, assign, body, hy1, hy2⟩ := hy
      refine stepF_round hf hdp ho e3 (nodef e2 (fun c => by simp)) (l := lY) (f := fn) (tmps := tmps) (assign := assign) (body := body) ?_ hy2 fun w' hG => ⟨h.put hown' ho e1 T43.symm, hW.called hr (by rw [h.fm.lsize]; omega) hG⟩
      unfold execOp; simp only [e2, Act.eval, hv1, hv2, hv3]
      go_simp
  · rintro listed b w ⟨h, hW⟩ hr
    have hup := all_up hback h.fm.lsize hr
    have hT2 : b.tmps = T := by
      apply Array.ext h.fm.size
      intro d h1 h2
      have : b.tmps.getD d undef = T.getD d undef := by
        by_cases hd : d < 38
        · exact h.fm.base d (List.mem_range.2 hd)
        · have hdec : ∀ i, i < 6 → (shapeB[i]?).map (·.1) = some (some (38 + i)) := by decide
          have h1 := hdec (d - 38) (by omega)
          rw [← hsh, List.getElem?_map, Array.getElem?_toList] at h1
          cases ho : ops[d - 38]? with
          | none => rw [ho] at h1; cases h1
          | some op0 =>
            rw [ho] at h1
            simp only [Option.map_some, Option.some.injEq, shapeOf] at h1
            exact h.fm.up (d - 38) op0 d ho (hup (d - 38) (by omega)) (by rw [h1, Nat.add_sub_cancel' (by omega)])
      simpa [h1, h2] using this
    refine ⟨rfl, ?_, ?_⟩
    · have := h.ds
      cases b; simp at this hT2 ⊢; exact ⟨hT2, this⟩
    · rcases hW.2 with ⟨h7, _⟩ | ⟨_, h'⟩
      · rw [hup 5 (by omega)] at h7; cases h7
      · exact h'
end
end Go.Proofs.YtbblmpibekkbfaaDoor
