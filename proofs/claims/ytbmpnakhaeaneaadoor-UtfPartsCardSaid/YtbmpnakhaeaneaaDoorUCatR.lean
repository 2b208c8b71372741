/- UtfParts' 'out = out + s[i:i+1]' inside a round: in whatever order its operations come up, the text has one byte more. -/
import Derived.Test.YtbmpnakhaeaneaaDoorUAppR
namespace Go.Proofs.YtbmpnakhaeaneaaDoor
open Go.RowKit
open Fr (ownSlots waitsOf backwards all_up shapeOf shape_at shape_is left_set left_new)

def catShape : List (Option Tmp × Op × Bool) := [
  (some 59, .load 9 (.tmp 9), true), (some 60, .load 9 (.tmp 2), true), (some 61, .move (.tmp 12), true), (some 62, .move (.tmp 12), true), (some 63, .binOp .add 3 (.tmp 62) (.const (.int .i64 1)) 3, true),
  (some 64, .slice 9 (.tmp 60) (some (.tmp 61)) (some (.tmp 63)) none, true), (some 65, .binOp .add 9 (.tmp 59) (.tmp 64) 9, true), (none, .store 9 (.tmp 9) (.tmp 65), true)]
def CatW (W2 : World) (B2 : Nat) (o' : ByteArray) (listed : Array Bool) (w : World) : Prop :=
  (listed.getD 7 false = false ∧ w = W2.drew) ∨ (listed.getD 7 false = true ∧ (∀ j, j < 7 → listed.getD j false = true) ∧ w = W2.drew.setCell ⟨B2, 0, none⟩ (.string o'))
theorem CatW.keep {W2 w : World} {B2 : Nat} {o' : ByteArray} {listed : Array Bool} (h : CatW W2 B2 o' listed w) {i : Nat} (h7 : i ≠ 7) : CatW W2 B2 o' (listed.setIfInBounds i true) w := by
  unfold CatW at h ⊢
  rw [getD_other (Ne.symm h7)]
  rcases h with h | ⟨a1, a2, a3⟩
  · exact .inl h
  · exact .inr ⟨a1, fun j hj => still_listed (a2 j hj), a3⟩
theorem getD_set (t : Array Value) (i : Nat) (v : Value) (d : Nat) : (t.setIfInBounds i v).getD d undef = if d = i ∧ i < t.size then v else t.getD d undef := by
  rw [Array.getD_eq_getD_getElem?, Array.getElem?_setIfInBounds, Array.getD_eq_getD_getElem?]
  by_cases h : i = d
  · subst h
    rw [if_pos rfl]
    by_cases h2 : i < t.size
    · rw [if_pos h2, if_pos ⟨rfl, h2⟩]; rfl
    · rw [if_neg h2, if_neg (fun h => h2 h.2), Array.getElem?_eq_none (by omega)]
  · rw [if_neg h, if_neg (fun h' => h h'.1.symm)]
def catT (t : Array Value) (o s X o' : ByteArray) (p : Int) : Array Value :=
  ((((((t.setIfInBounds 59 (.string o)).setIfInBounds 60 (.string s)).setIfInBounds 61 (.int .i64 p)).setIfInBounds 62 (.int .i64 p)).setIfInBounds 63 (.int .i64 (p + 1))).setIfInBounds 64 (.string X)).setIfInBounds 65 (.string o')
theorem catT_size (t : Array Value) (o s X o' : ByteArray) (p : Int) : (catT t o s X o' p).size = t.size := by simp [catT]
theorem catT_at (t : Array Value) (o s X o' : ByteArray) (p : Int) (h : t.size = 80) (d : Nat) : (catT t o s X o' p).getD d undef = if d = 65 then .string o' else if d = 64 then .string X else if d = 63 then .int .i64 (p + 1) else if d = 62 then .int .i64 p else if d = 61 then .int .i64 p else if d = 60 then .string s else if d = 59 then .string o else t.getD d undef := by
  unfold catT
  rw [getD_set, getD_set, getD_set, getD_set, getD_set, getD_set, getD_set]
  simp only [Array.size_setIfInBounds, h, Nat.reduceLT, and_true]
def catB : List Nat := List.range 59 ++ List.range' 66 14
theorem mem_cat {d : Nat} (h : d < 59) : d ∈ catB := List.mem_append_left _ (List.mem_range.2 h)
section
variable {l n : Nat} {ops : Array Oper} {W2 : World} {B1 B2 p : Nat} {s o o' X : ByteArray}
set_option maxRecDepth 100000 in
set_option maxHeartbeats 2000000 in
theorem cat_region {id : Nat} {a : Act} (hm : Tryd.prog.follows .mixedOrders = true) (hsh : ops.toList.map shapeOf = catShape) (htp : ops.toList.map (·.type) = [9, 9, 3, 3, 3, 9, 9, 0]) (hown : ownSlots ops catB 80 = true) (hback : backwards ops = true)
    (hw1 : waitsOf ops 4 3 = true) (hw2 : waitsOf ops 5 1 = true) (hw3 : waitsOf ops 5 2 = true) (hw4 : waitsOf ops 5 4 = true) (hw5 : waitsOf ops 6 0 = true) (hw6 : waitsOf ops 6 5 = true) (hw7 : ((List.range 7).all fun j => waitsOf ops 7 j) = true)
    (a2 : a.tmps.getD 2 undef = .pointer (some ⟨B1, 0, none⟩)) (a9 : a.tmps.getD 9 undef = .pointer (some ⟨B2, 0, none⟩)) (a12 : a.tmps.getD 12 undef = .int .i64 (p : Int)) (ha : a.tmps.size = 80) (hdf : a.defers = [])
    (hp : p < s.size) (hps : s.size ≤ 1000) (hX : s.extract p (p + 1) = X) (ho' : o ++ X = o') (hoz : o.size + X.size ≤ 100000) (c1 : W2.cell? ⟨B1, 0, none⟩ = some (.string s)) (c2 : W2.cell? ⟨B2, 0, none⟩ = some (.string o)) (f2 : W2.frozen? ⟨B2, 0, none⟩ = false) :
    (Code.region id ops true).wpIn (Fence.wide.inRound l) n Tryd.prog (fun e a' w' => e = .normal ∧ a' = { tmps := catT a.tmps o s X o' p, defers := [] } ∧ w' = W2.drew.setCell ⟨B2, 0, none⟩ (.string o')) a W2 := by
  have hsz : ops.size = 8 := by have := congrArg List.length hsh; simpa [catShape] using this
  obtain ⟨T, hT⟩ : ∃ T, catT a.tmps o s X o' p = T := ⟨_, rfl⟩
  have TS : T.size = 80 := by rw [← hT, catT_size, ha]
  have TA := catT_at a.tmps o s X o' (p : Int) ha
  simp only [hT] at TA
  have hba : ∀ d ∈ catB, a.tmps.getD d undef = T.getD d undef := fun d hd => by
    have : d < 59 ∨ 66 ≤ d := by
      rcases List.mem_append.1 hd with h | h
      · exact .inl (List.mem_range.1 h)
      · exact .inr (by have := (List.mem_range'_1.1 h).1; omega)
    rw [TA, if_neg (by omega), if_neg (by omega), if_neg (by omega), if_neg (by omega), if_neg (by omega), if_neg (by omega), if_neg (by omega)]
  have T2 : T.getD 2 undef = .pointer (some ⟨B1, 0, none⟩) := by rw [← hba 2 (mem_cat (by omega))]; exact a2
  have T9 : T.getD 9 undef = .pointer (some ⟨B2, 0, none⟩) := by rw [← hba 9 (mem_cat (by omega))]; exact a9
  have T12 : T.getD 12 undef = .int .i64 (p : Int) := by rw [← hba 12 (mem_cat (by omega))]; exact a12
  have T59 : T.getD 59 undef = .string o := TA 59
  have T60 : T.getD 60 undef = .string s := TA 60
  have T61 : T.getD 61 undef = .int .i64 (p : Int) := TA 61
  have T62 : T.getD 62 undef = .int .i64 (p : Int) := TA 62
  have T63 : T.getD 63 undef = .int .i64 ((p : Int) + 1) := TA 63
  have T64 : T.getD 64 undef = .string X := TA 64
  have T65 : T.getD 65 undef = .string o' := TA 65
  rw [hT]
  clear TA
  refine wpIn_region_inv hm (fun listed a w => Fm ops T catB listed a ∧ CatW W2 B2 o' listed w) ⟨⟨by rw [TS, ha], hdf, hba, fun i o d hi hl => ?_, by simp⟩, .inl ⟨rep_getD _ _, rfl⟩⟩ ?_ ?_
  · have hlt := (Array.getElem?_eq_some_iff.1 hi).1
    simp [hlt] at hl
  · rintro listed b w ⟨h, hW⟩ i hr
    obtain ⟨hun, op0, ho, hready⟩ := mem_ready.1 hr
    have hown' : ownSlots ops catB T.size = true := by rw [TS]; exact hown
    have hlt : i < 8 := by have := (Array.getElem?_eq_some_iff.1 ho).1; omega
    have nodef : ∀ {op : Op}, op0.op = op → (∀ c, op ≠ .defer c) → ∀ c, op0.op ≠ .defer c := fun e h c => by rw [e]; exact h c
    have hty : ∀ t, ([9, 9, 3, 3, 3, 9, 9, 0] : List Nat)[i]? = some t → op0.type = t := fun t ht => by
      rw [← htp, List.getElem?_map, Array.getElem?_toList, ho] at ht
      simpa using ht
    have early : i < 7 → w = W2.drew := fun h7 => by
      rcases hW with ⟨_, h'⟩ | ⟨_, h', _⟩
      · exact h'
      · have := h' i h7
        rw [not_listed hun] at this; cases this
    have val : ∀ {d : Nat} {op : Op} {u : Value}, catShape[i]? = some (some d, op, true) → (∀ c, op ≠ .defer c) → (op0.op = op → (execOp b.eval op0).run Tryd.prog w = .ok (.value u) w) → u = T.getD d undef → i ≠ 7 →
        wpOpIn (Fence.wide.inRound l) n Tryd.prog ops (fun e a' w' => e = .normal ∧ a' = { tmps := T, defers := [] } ∧ w' = W2.drew.setCell ⟨B2, 0, none⟩ (.string o')) i (fun a' w' => Fm ops T catB (listed.setIfInBounds i true) a' ∧ CatW W2 B2 o' (listed.setIfInBounds i true) w') b w := by
      intro d op u hl hnd hr hv h7
      obtain ⟨e1, e2, e3⟩ := shape_is hsh ho hl
      exact stepIn_val ho e3 (nodef e2 hnd) (hr e2) ⟨h.put hown' ho e1 hv, hW.keep h7⟩
    match i, hlt with
    | 0, _ =>
      obtain rfl := early (by omega)
      refine val (d := 59) (u := .string o) rfl (fun c => by simp) (fun hop => ?_) T59.symm (by omega)
      have hv : b.tmps.getD 9 undef = .pointer (some ⟨B2, 0, none⟩) := (h.base 9 (mem_cat (by omega))).trans T9
      unfold execOp; simp only [hop, Act.eval]; rw [hv]
      go_simp
    | 1, _ =>
      obtain rfl := early (by omega)
      refine val (d := 60) (u := .string s) rfl (fun c => by simp) (fun hop => ?_) T60.symm (by omega)
      have hv : b.tmps.getD 2 undef = .pointer (some ⟨B1, 0, none⟩) := (h.base 2 (mem_cat (by omega))).trans T2
      unfold execOp; simp only [hop, Act.eval]; rw [hv]
      go_simp
    | 2, _ =>
      refine val (d := 61) (u := .int .i64 (p : Int)) rfl (fun c => by simp) (fun hop => ?_) T61.symm (by omega)
      have hv : b.tmps.getD 12 undef = .int .i64 (p : Int) := (h.base 12 (mem_cat (by omega))).trans T12
      unfold execOp; simp only [hop, Act.eval]; rw [hv]
      go_simp
    | 3, _ =>
      refine val (d := 62) (u := .int .i64 (p : Int)) rfl (fun c => by simp) (fun hop => ?_) T62.symm (by omega)
      have hv : b.tmps.getD 12 undef = .int .i64 (p : Int) := (h.base 12 (mem_cat (by omega))).trans T12
      unfold execOp; simp only [hop, Act.eval]; rw [hv]
      go_simp
    | 4, _ =>
      refine val (d := 63) (u := .int .i64 ((p : Int) + 1)) rfl (fun c => by simp) (fun hop => ?_) T63.symm (by omega)
      have hv : b.tmps.getD 62 undef = .int .i64 (p : Int) := (h.seen hsh hr 3 rfl hw1).trans T62
      have hwr : IntKind.i64.wrap ((p : Int) + 1) = (p : Int) + 1 := IntWalk.i64_in _ (by omega)
      unfold execOp; simp only [hop, Act.eval]; rw [hv]
      go_simp
    | 5, _ =>
      refine val (d := 64) (u := .string X) rfl (fun c => by simp) (fun hop => ?_) T64.symm (by omega)
      have hv1 : b.tmps.getD 60 undef = .string s := (h.seen hsh hr 1 rfl hw2).trans T60
      have hv2 : b.tmps.getD 61 undef = .int .i64 (p : Int) := (h.seen hsh hr 2 rfl hw3).trans T61
      have hv3 : b.tmps.getD 63 undef = .int .i64 ((p : Int) + 1) := (h.seen hsh hr 4 rfl hw4).trans T63
      have g0 : (0 : Int) ≤ (p : Int) := by omega
      have g2 : (p : Int) + 1 ≤ (s.size : Int) := by omega
      have g3 : (0 : Int) ≤ (p : Int) + 1 := by omega
      have g4 : (p : Int) ≤ (p : Int) + 1 := by omega
      have g5 : (p : Int) ≤ (s.size : Int) := by omega
      have g7 : ((p : Int) + 1).toNat = p + 1 := by omega
      unfold execOp; simp only [hop, Act.eval, Option.map_some, Option.map_none, hv1, hv2, hv3]
      go_simp
    | 6, _ =>
      refine val (d := 65) (u := .string o') rfl (fun c => by simp) (fun hop => ?_) T65.symm (by omega)
      have hv1 : b.tmps.getD 59 undef = .string o := (h.seen hsh hr 0 rfl hw5).trans T59
      have hv2 : b.tmps.getD 64 undef = .string X := (h.seen hsh hr 5 rfl hw6).trans T64
      have hc1 : ¬ 9223372036854775807 < o.size + X.size := by omega
      unfold execOp; simp only [hop, Act.eval, hv1, hv2]
      go_simp
    | 7, _ =>
      obtain ⟨e1, e2, e3⟩ : op0.dst = none ∧ op0.op = .store 9 (.tmp 9) (.tmp 65) ∧ op0.guard = none := by
        have := shape_at hsh ho
        simp only [catShape, List.getElem?_cons_succ, List.getElem?_cons_zero, Option.some.injEq, Prod.mk.injEq] at this
        exact ⟨this.1.symm, this.2.1.symm, Option.isNone_iff_eq_none.1 this.2.2.symm⟩
      have hwt : ∀ j, j < 7 → waitsOf ops 7 j = true := fun j hj => List.all_eq_true.1 hw7 j (List.mem_range.2 hj)
      have hv1 : b.tmps.getD 9 undef = .pointer (some ⟨B2, 0, none⟩) := (h.base 9 (mem_cat (by omega))).trans T9
      have hv2 : b.tmps.getD 65 undef = .string o' := (h.seen hsh hr 6 rfl (hwt 6 (by omega))).trans T65
      obtain rfl : w = W2.drew := by
        rcases hW with ⟨_, h'⟩ | ⟨h', _⟩
        · exact h'
        · rw [not_listed hun] at h'; cases h'
      refine stepIn_skip ho e3 (nodef e2 (fun c => by simp)) (w' := W2.drew.setCell ⟨B2, 0, none⟩ (.string o')) ?_ ⟨h.none ho e1 _, .inr ⟨listed_set (by rw [h.lsize]; omega), fun j hj => ?_, rfl⟩⟩
      · unfold execOp; simp only [e2, Act.eval, hv1, hv2]
        go_simp
      · exact still_listed (wait_listed hr (hwt j hj))
  · rintro listed b w ⟨h, hW⟩ hr
    have hup := all_up hback h.lsize hr
    have hT2 : b.tmps = T := by
      apply Array.ext h.size
      intro d h1 h2
      have : b.tmps.getD d undef = T.getD d undef := by
        by_cases hd : d < 59 ∨ 66 ≤ d
        · refine h.base d ?_
          rcases hd with hd | hd
          · exact List.mem_append_left _ (List.mem_range.2 hd)
          · exact List.mem_append_right _ (List.mem_range'_1.2 ⟨hd, by omega⟩)
        · have hdec : ∀ i, i < 7 → (catShape[i]?).map (·.1) = some (some (59 + i)) := by decide
          have h1 := hdec (d - 59) (by omega)
          rw [← hsh, List.getElem?_map, Array.getElem?_toList] at h1
          cases ho : ops[d - 59]? with
          | none => rw [ho] at h1; cases h1
          | some op0 =>
            rw [ho] at h1
            simp only [Option.map_some, Option.some.injEq, shapeOf] at h1
            exact h.up (d - 59) op0 d ho (hup (d - 59) (by omega)) (by rw [h1, Nat.add_sub_cancel' (by omega)])
      simpa [h1, h2] using this
    refine ⟨rfl, ?_, ?_⟩
    · have := h.defers
      cases b; simp at this hT2 ⊢; exact ⟨hT2, this⟩
    · rcases hW with ⟨h7, _⟩ | ⟨_, _, h'⟩
      · rw [hup 7 (by omega)] at h7; cases h7
      · exact h'
end
end Go.Proofs.YtbmpnakhaeaneaaDoor
