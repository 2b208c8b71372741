/- The sum of bytes, and numbers and texts as bytes, in plain numbers and lists: nothing of the program is walked here. -/
import Derived.WalkKit
import Derived.Orders

namespace Go.Proofs.YthambopnmhkeeaaGreat.Fr
def cStep (c : Nat) : Nat := if c % 2 = 1 then c / 2 ^^^ 3988292384 else c / 2
def cIter : Nat -> Nat -> Nat
 | 0, c => c
 | n + 1, c => cIter n (cStep c)
def addB (c : Nat) (b : UInt8) : Nat := cIter 8 (c ^^^ b.toNat)
def crcRaw (c : Nat) (l : List UInt8) : Nat := l.foldl addB c
def crcL (l : List UInt8) : Nat := crcRaw 4294967295 l ^^^ 4294967295
theorem cIter_add (m n c : Nat) : cIter (m + n) c = cIter n (cIter m c) := by
 induction m generalizing c with
 | zero => rw [Nat.zero_add]; rfl
 | succ m ih =>
  have e : m + 1 + n = m + n + 1 := by omega
  rw [e]; show cIter (m + n) (cStep c) = cIter n (cIter m (cStep c)); exact ih _
theorem cIter_succ' (n c : Nat) : cIter (n + 1) c = cStep (cIter n c) := cIter_add n 1 c
theorem cStep_lt (c : Nat) (h : c < 4294967296) : cStep c < 4294967296 := by
 unfold cStep
 split
 ·have : c / 2 ^^^ 3988292384 < 2 ^ 32 := Nat.xor_lt_two_pow (by omega) (by omega)
  omega
 ·omega
theorem cIter_lt (n c : Nat) (h : c < 4294967296) : cIter n c < 4294967296 := by
 induction n generalizing c with
 | zero => exact h
 | succ n ih => exact ih _ (cStep_lt c h)
theorem xor_lt32 (a b : Nat) (ha : a < 4294967296) (hb : b < 4294967296) : a ^^^ b < 4294967296 := by
 have : a ^^^ b < 2 ^ 32 := Nat.xor_lt_two_pow (by omega) (by omega)
 omega
theorem byte_lt (b : UInt8) : b.toNat < 256 := b.toNat_lt
theorem addB_lt (c : Nat) (b : UInt8) (h : c < 4294967296) : addB c b < 4294967296 := cIter_lt _ _ (xor_lt32 _ _ h (by have := byte_lt b; omega))
theorem crcRaw_lt (l : List UInt8) (c : Nat) (h : c < 4294967296) : crcRaw c l < 4294967296 := by
 induction l generalizing c with
 | nil => exact h
 | cons b l ih => exact ih _ (addB_lt c b h)
theorem crcL_lt (l : List UInt8) : crcL l < 4294967296 := xor_lt32 _ _ (crcRaw_lt l _ (by omega)) (by omega)
theorem crcRaw_append (c : Nat) (l m : List UInt8) : crcRaw c (l ++ m) = crcRaw (crcRaw c l) m := List.foldl_append ..
theorem crcRaw_snoc (c : Nat) (l : List UInt8) (b : UInt8) : crcRaw c (l ++ [b]) = addB (crcRaw c l) b := crcRaw_append c l [b]
end Go.Proofs.YthambopnmhkeeaaGreat.Fr
/- Numbers and texts as bytes, in plain numbers and lists: what is written, what is read; nothing of the program is walked here. -/
namespace Go.Proofs.YthambopnmhkeeaaGreat.Fr
def fixL (v : Nat) : List UInt8 := [UInt8.ofNat v, UInt8.ofNat (v / 256), UInt8.ofNat (v / 65536), UInt8.ofNat (v / 16777216)]
def unfix (a b c d : UInt8) : Nat := a.toNat + 256 * b.toNat + 65536 * c.toNat + 16777216 * d.toNat
theorem unfix_fixL (v : Nat) (h : v < 4294967296) : unfix (UInt8.ofNat v) (UInt8.ofNat (v / 256)) (UInt8.ofNat (v / 65536)) (UInt8.ofNat (v / 16777216)) = v := by
 unfold unfix
 simp only [UInt8.toNat_ofNat']
 omega
end Go.Proofs.YthambopnmhkeeaaGreat.Fr
/- A region that draws its order, by an invariant: what each slot holds once its operation has come up, in whatever order; nothing of one program is in it. -/
namespace Go.Proofs.YthambopnmhkeeaaGreat.Fr
open Go.RowKit
section
variable {P : Program} {ops : Array Oper} {Q : Exit -> Act -> World -> Prop}
def left (listed : Array Bool) : Nat := listed.toList.countP (fun b => !b)
theorem left_set {listed : Array Bool} {i : Nat} (h : listed.getD i true = false) : left (listed.setIfInBounds i true) + 1 = left listed := by
 obtain ⟨l⟩ := listed
 unfold left
 rw [List.setIfInBounds_toArray]
 show (l.set i true).countP _ + 1 = l.countP _
 have h' : l[i]?.getD true = false := by simpa using h
 clear h
 induction l generalizing i with
 | nil => simp at h'
 | cons b l ih =>
  cases i with
  | zero => simp at h'; subst h'; simp
  | succ i =>
   have := ih (i := i) (by simpa using h')
   simp only [List.set_cons_succ, List.countP_cons]
   omega
theorem left_new (n : Nat) : left (Array.replicate n false) = n := by
 unfold left
 rw [Array.toList_replicate, List.countP_replicate]
 simp
def Holds (Spec : Nat -> Value -> World -> Prop) (ds : List Nat) (a : Act) (w : World) : Prop := ∀ d ∈ ds, Spec d (a.tmps.getD d undef) w
def Up (ops : Array Oper) (Spec : Nat -> Value -> World -> Prop) (listed : Array Bool) (a : Act) (w : World) : Prop :=
 ∀ (i : Nat) (o : Oper) (d : Nat), ops[i]? = some o -> listed.getD i false = true -> o.dst = some d -> Spec d (a.tmps.getD d undef) w
structure Inv (ops : Array Oper) (Spec : Nat -> Value -> World -> Prop) (base : List Nat) (n : Nat) (W : World -> Prop) (listed : Array Bool) (a : Act) (w : World) : Prop where
 size : a.tmps.size = n
 defers : a.defers = []
 world : W w
 base : Holds Spec base a w
 up : Up ops Spec listed a w
 lsize : listed.size = ops.size
def ownSlots (ops : Array Oper) (base : List Nat) (n : Nat) : Bool :=
 (List.range ops.size).all fun i => match ops[i]? with
  | none => true
  | some o => match o.dst with
   | none => true
   | some d => decide (d < n) && !base.contains d && o.guard.isNone && (List.range ops.size).all fun j => decide (j = i) || match ops[j]? with | none => true | some p => p.dst != some d
theorem Inv.put {Spec : Nat -> Value -> World -> Prop} {base : List Nat} {n : Nat} {W : World -> Prop} {listed : Array Bool} {a : Act} {w w' : World} (h : Inv ops Spec base n W listed a w) (hown : ownSlots ops base n = true)
  {i : Nat} {o : Oper} {d : Nat} (hi : ops[i]? = some o) (hd : o.dst = some d) {v : Value} (hW : W w') (hmono : ∀ k u, Spec k u w -> Spec k u w') (hv : Spec d v w') :
  Inv ops Spec base n W (listed.setIfInBounds i true) (a.put o.dst v) w' := by
 have hlt : i < ops.size := (Array.getElem?_eq_some_iff.1 hi).1
 have h1 := List.all_eq_true.1 hown i (List.mem_range.2 hlt)
 rw [hi] at h1
 simp only [hd, Bool.and_eq_true, decide_eq_true_eq, Bool.not_eq_true', List.contains_eq_mem, decide_eq_false_iff_not] at h1
 obtain ⟨⟨⟨hdn, hdb⟩, _⟩, hother⟩ := h1
 have hput : ∀ k, k ≠ d -> (a.put o.dst v).tmps.getD k undef = a.tmps.getD k undef := fun k hk => by
  rw [hd]
  show (a.tmps.setIfInBounds d v).getD k undef = _
  simp [Ne.symm hk]
 have hsame : (a.put o.dst v).tmps.getD d undef = v := by
  rw [hd]
  show (a.tmps.setIfInBounds d v).getD d undef = _
  have : d < a.tmps.size := by rw [h.size]; exact hdn
  simp [this]
 refine ⟨?_, ?_, hW, ?_, ?_, by simp [h.lsize]⟩
 ·rw [hd]; show (a.tmps.setIfInBounds d v).size = n; simp [h.size]
 ·rw [hd]; exact h.defers
 ·intro k hk
  rw [hput k (fun e => hdb (e ▸ hk))]
  exact hmono _ _ (h.base k hk)
 ·intro j p q hj hl hq
  by_cases hji : j = i
  ·subst hji
   rw [hi] at hj
   cases hj
   rw [hd] at hq
   cases hq
   rw [hsame]; exact hv
  ·have hjl : j < ops.size := (Array.getElem?_eq_some_iff.1 hj).1
   have h2 := List.all_eq_true.1 hother j (List.mem_range.2 hjl)
   rw [hj] at h2
   simp only [hji, decide_false, Bool.false_or, bne_iff_ne, ne_eq] at h2
   have hqd : q ≠ d := fun e => h2 (by rw [hq, e])
   rw [hput q hqd]
   have hl' : listed.getD j false = true := by
    rw [Array.getD_eq_getD_getElem?, Array.getElem?_setIfInBounds, if_neg (Ne.symm hji), <- Array.getD_eq_getD_getElem?] at hl
    exact hl
   exact hmono _ _ (h.up j p q hj hl' hq)
def waitsOf (ops : Array Oper) (i k : Nat) : Bool := match ops[i]? with | none => false | some o => o.after.toList.any fun e => Region.binds .any e && e.on == k
theorem Inv.at {Spec : Nat -> Value -> World -> Prop} {base : List Nat} {n : Nat} {W : World -> Prop} {listed : Array Bool} {a : Act} {w : World} (h : Inv ops Spec base n W listed a w)
  {i : Nat} (hr : i ∈ Region.ready .any ops listed) (k d : Nat) (p : Oper) (hw : waitsOf ops i k = true) (hk : ops[k]? = some p) (hd : p.dst = some d) : Spec d (a.tmps.getD d undef) w := by
 obtain ⟨_, o, ho, hall⟩ := mem_ready.1 hr
 unfold waitsOf at hw
 rw [ho] at hw
 obtain ⟨e, he0, hb⟩ := List.any_eq_true.1 hw
 have he : e ∈ o.after := Array.mem_toList_iff.1 he0
 simp only [Bool.and_eq_true, beq_iff_eq] at hb
 have := hall e he hb.1
 rw [hb.2] at this
 exact h.up k p d hk this hd
def backwards (ops : Array Oper) : Bool := (List.range ops.size).all fun i => match ops[i]? with | none => true | some o => o.after.all fun e => decide (e.on < i)
theorem all_up (hb : backwards ops = true) {listed : Array Bool} (hl : listed.size = ops.size) (hr : Region.ready .any ops listed = []) : ∀ i, i < ops.size -> listed.getD i false = true := by
 intro i
 induction i using Nat.strongRecOn with
 | ind i ih =>
  intro hi
  apply Decidable.byContradiction
  intro hn
  have hf : listed.getD i true = false := by
   have hil : i < listed.size := by omega
   simp [hil] at hn ⊢
   exact hn
  have hm : i ∈ Region.ready .any ops listed := by
   refine mem_ready.2 ⟨hf, ops[i], by simp [hi], fun e he _ => ?_⟩
   have h1 := List.all_eq_true.1 hb i (List.mem_range.2 hi)
   simp only [Array.getElem?_eq_getElem hi] at h1
   have h2 := Array.all_eq_true_iff_forall_mem.1 h1 e he
   have h3 : e.on < i := by simpa using h2
   exact ih e.on h3 (by omega)
  rw [hr] at hm
  cases hm
theorem step_val {i : Nat} {o : Oper} {K : Act -> World -> Prop} {a : Act} {w w' : World} {v : Value} (hi : ops[i]? = some o) (hg : o.guard = none) (hr : (execOp a.eval o).run P w = .ok (.value v) w') (h : K (a.put o.dst v) w') : wpOp P ops Q i K a w := by
 unfold wpOp
 simp only [hi, Region.wanted, hg, if_true]
 left
 unfold Oper.wp
 rw [hr]
 exact h
theorem Inv.val {Spec : Nat -> Value -> World -> Prop} {base : List Nat} {n : Nat} {W : World -> Prop} {listed : Array Bool} {a : Act} {w w' : World} (h : Inv ops Spec base n W listed a w) (hown : ownSlots ops base n = true)
  {i : Nat} {o : Oper} {d : Nat} {v : Value} (hi : ops[i]? = some o) (hd : o.dst = some d) (hg : o.guard = none) (hr : (execOp a.eval o).run P w = .ok (.value v) w') (hW : W w') (hmono : ∀ k u, Spec k u w -> Spec k u w') (hv : Spec d v w') :
  wpOp P ops Q i (fun a' w' => Inv ops Spec base n W (listed.setIfInBounds i true) a' w') a w := step_val hi hg hr (h.put hown hi hd hW hmono hv)
def shapeOf (o : Oper) : Option Tmp × Op × Bool := (o.dst, o.op, o.guard.isNone)
theorem shape_at {l : List (Option Tmp × Op × Bool)} (h : ops.toList.map shapeOf = l) {i : Nat} {o : Oper} (hi : ops[i]? = some o) : l[i]? = some (o.dst, o.op, o.guard.isNone) := by
 have h2 : ops.toList[i]? = some o := by rw [Array.getElem?_toList]; exact hi
 rw [<- h, List.getElem?_map, h2]; rfl
theorem shape_is {l : List (Option Tmp × Op × Bool)} (h : ops.toList.map shapeOf = l) {i : Nat} {o : Oper} (hi : ops[i]? = some o) {d : Nat} {op : Op} (hl : l[i]? = some (some d, op, true)) : o.dst = some d /\ o.op = op /\ o.guard = none := by
 have := shape_at h hi
 rw [hl] at this
 simp only [Option.some.injEq, Prod.mk.injEq] at this
 exact ⟨this.1.symm, this.2.1.symm, Option.isNone_iff_eq_none.1 this.2.2.symm⟩
theorem Inv.seen {Spec : Nat -> Value -> World -> Prop} {base : List Nat} {n : Nat} {W : World -> Prop} {listed : Array Bool} {a : Act} {w : World} (h : Inv ops Spec base n W listed a w) {l : List (Option Tmp × Op × Bool)} (hl : ops.toList.map shapeOf = l)
  {i : Nat} (hr : i ∈ Region.ready .any ops listed) (k : Nat) {d : Nat} {op : Op} {b : Bool} (hk : l[k]? = some (some d, op, b)) (hw : waitsOf ops i k = true) : Spec d (a.tmps.getD d undef) w := by
 have h1 : (ops.toList.map shapeOf)[k]? = some (some d, op, b) := by rw [hl]; exact hk
 rw [List.getElem?_map, Array.getElem?_toList] at h1
 cases ho : ops[k]? with
 | none => rw [ho] at h1; cases h1
 | some p =>
  rw [ho] at h1
  simp only [Option.map_some, Option.some.injEq, shapeOf, Prod.mk.injEq] at h1
  exact h.at hr k d p hw ho h1.1
end
end Go.Proofs.YthambopnmhkeeaaGreat.Fr
/- Rows of bits in plain lists: what a bit is, what is turned, what is free, runs, what fits; nothing of the program is walked here. -/
namespace Go.Proofs.YthambopnmhkeeaaGreat.Bm
def bt (l : List UInt8) (i : Nat) : Bool := (l.getD (i / 8) 0).toNat.testBit (i % 8)
def gb (l : List UInt8) (i : Int) : Bool := decide (0 <= i) && bt l i.toNat
def vb (i : Nat) : Nat := 2 ^ (i % 8)
def fi (k : Nat) (n : Int) : Nat := (min n (8 * (k : Int))).toNat
def byte1 (b : UInt8) (r : Nat) (on : Bool) : UInt8 := if on then b ||| UInt8.ofNat (2 ^ r) else b &&& ~~~ (UInt8.ofNat (2 ^ r))
def set1 (l : List UInt8) (i : Nat) (on : Bool) : List UInt8 := l.set (i / 8) (byte1 (l.getD (i / 8) 0) (i % 8) on)
def stL (l : List UInt8) (a : Nat) (on : Bool) : Nat -> List UInt8
 | 0 => l
 | c + 1 => set1 (stL l a on c) (a + c) on
def fr (l : List UInt8) : Nat -> Nat
 | 0 => 0
 | m + 1 => fr l m + if bt l m = true then 0 else 1
theorem gb_nat (l : List UInt8) (i : Nat) : gb l (i : Int) = bt l i := by simp [gb]
theorem gb_neg (l : List UInt8) (i : Int) (h : i < 0) : gb l i = false := by simp [gb]; omega
theorem bt_out (l : List UInt8) (i : Nat) (h : 8 * l.length <= i) : bt l i = false := by
 unfold bt
 rw [show l.getD (i / 8) 0 = 0 by simp [List.getD, List.getElem?_eq_none (show l.length <= i / 8 by omega)]]
 simp
theorem fi_le (k : Nat) (n : Int) : fi k n <= 8 * k := by unfold fi; omega
theorem byte1_bits_all : ∀ b : Fin 256, ∀ r : Fin 8, ∀ k : Fin 8, ∀ on : Bool, (byte1 (UInt8.ofNat b.1) r.1 on).toNat.testBit k.1 = if k.1 = r.1 then on else b.1.testBit k.1 := by decide +kernel
theorem byte1_bits (b : UInt8) (r k : Nat) (on : Bool) (hr : r < 8) (hk : k < 8) : (byte1 b r on).toNat.testBit k = if k = r then on else b.toNat.testBit k := by
 have := byte1_bits_all ⟨b.toNat, b.toNat_lt⟩ ⟨r, hr⟩ ⟨k, hk⟩ on
 simpa using this
theorem byte1_xor_all : ∀ b : Fin 256, ∀ r : Fin 8, ∀ on : Bool, byte1 (UInt8.ofNat b.1) r.1 on = if b.1.testBit r.1 = on then UInt8.ofNat b.1 else UInt8.ofNat b.1 ^^^ UInt8.ofNat (2 ^ r.1) := by decide +kernel
theorem byte1_xor (b : UInt8) (r : Nat) (on : Bool) (hr : r < 8) : byte1 b r on = if b.toNat.testBit r = on then b else b ^^^ UInt8.ofNat (2 ^ r) := by
 have := byte1_xor_all ⟨b.toNat, b.toNat_lt⟩ ⟨r, hr⟩ on
 simpa using this
theorem byte_eq {a b : UInt8} (h : ∀ k, k < 8 -> a.toNat.testBit k = b.toNat.testBit k) : a = b := by
 apply UInt8.toNat_inj.1
 apply Nat.eq_of_testBit_eq
 intro k
 by_cases hk : k < 8
 ·exact h k hk
 ·have hp : 2 ^ 8 <= 2 ^ k := Nat.pow_le_pow_right (by omega) (by omega)
  rw [Nat.testBit_lt_two_pow (Nat.lt_of_lt_of_le a.toNat_lt hp), Nat.testBit_lt_two_pow (Nat.lt_of_lt_of_le b.toNat_lt hp)]
theorem bt_ext {l m : List UInt8} (hl : l.length = m.length) (h : ∀ i, i < 8 * l.length -> bt l i = bt m i) : l = m := by
 apply List.ext_getElem hl
 intro q h1 h2
 apply byte_eq
 intro k hk
 have := h (8 * q + k) (by omega)
 unfold bt at this
 rw [show (8 * q + k) / 8 = q by omega, show (8 * q + k) % 8 = k by omega] at this
 simpa [List.getD, h1, h2] using this
theorem set1_length (l : List UInt8) (i : Nat) (on : Bool) : (set1 l i on).length = l.length := by simp [set1]
theorem bt_set1 (l : List UInt8) (i k : Nat) (on : Bool) (hi : i < 8 * l.length) : bt (set1 l i on) k = if k = i then on else bt l k := by
 unfold bt set1
 by_cases e : k / 8 = i / 8
 ·have h1 : (l.set (i / 8) (byte1 (l.getD (i / 8) 0) (i % 8) on)).getD (k / 8) 0 = byte1 (l.getD (i / 8) 0) (i % 8) on := by
   rw [e]; simp [List.getD, show i / 8 < l.length by omega]
  rw [h1, byte1_bits _ _ _ _ (by omega) (by omega), e]
  by_cases e2 : k = i
  ·subst e2; simp
  ·rw [if_neg (by omega), if_neg e2]
 ·rw [if_neg (by omega)]
  congr 1
  simp [List.getD, List.getElem?_set_ne (Ne.symm e)]
theorem stL_length (l : List UInt8) (a c : Nat) (on : Bool) : (stL l a on c).length = l.length := by
 induction c with
 | zero => rfl
 | succ c ih => simp [stL, set1_length, ih]
theorem bt_stL (l : List UInt8) (a c k : Nat) (on : Bool) (h : a + c <= 8 * l.length) : bt (stL l a on c) k = if a <= k /\ k < a + c then on else bt l k := by
 induction c with
 | zero => rw [if_neg (by omega)]; rfl
 | succ c ih =>
  rw [stL, bt_set1 _ _ _ _ (by rw [stL_length]; omega), ih (by omega)]
  by_cases e : k = a + c
  ·rw [if_pos e, if_pos (by omega)]
  ·rw [if_neg e]
   by_cases e2 : a <= k /\ k < a + c
   ·rw [if_pos e2, if_pos (by omega)]
   ·rw [if_neg e2, if_neg (by omega)]
theorem stL_back (l : List UInt8) (a c : Nat) (h : a + c <= 8 * l.length) (hf : ∀ k, a <= k -> k < a + c -> bt l k = false) : stL (stL l a true c) a false c = l := by
 apply bt_ext (by simp [stL_length])
 intro i _
 rw [bt_stL _ _ _ _ _ (by rw [stL_length]; exact h)]
 by_cases e : a <= i /\ i < a + c
 ·rw [if_pos e, hf i e.1 e.2]
 ·rw [if_neg e, bt_stL _ _ _ _ _ h, if_neg e]
theorem fr_le (l : List UInt8) (m : Nat) : fr l m <= m := by
 induction m with
 | zero => exact Nat.le_refl _
 | succ m ih => rw [fr]; split <;> omega
theorem fr_same {l k : List UInt8} (m : Nat) (h : ∀ i, i < m -> bt l i = bt k i) : fr l m = fr k m := by
 induction m with
 | zero => rfl
 | succ m ih => rw [fr, fr, ih (fun i hi => h i (by omega)), h m (by omega)]
theorem fr_set1 (l : List UInt8) (i m : Nat) (hi : i < 8 * l.length) (hm : i < m) (hb : bt l i = false) : fr (set1 l i true) m + 1 = fr l m := by
 induction m with
 | zero => omega
 | succ m ih =>
  rw [fr, fr, bt_set1 _ _ _ _ hi]
  by_cases e : m = i
  ·subst e
   rw [fr_same (l := set1 l m true) (k := l) m (fun k hk => by rw [bt_set1 _ _ _ _ hi, if_neg (by omega)])]
   simp [hb]
  ·rw [if_neg e, <- ih (by omega)]; omega
theorem fr_stL (l : List UInt8) (a c m : Nat) (h : a + c <= 8 * l.length) (hm : a + c <= m) (hf : ∀ k, a <= k -> k < a + c -> bt l k = false) : fr (stL l a true c) m + c = fr l m := by
 induction c with
 | zero => rfl
 | succ c ih =>
  have := fr_set1 (stL l a true c) (a + c) m (by rw [stL_length]; omega) (by omega) (by rw [bt_stL _ _ _ _ _ (by omega), if_neg (by omega)]; exact hf _ (by omega) (by omega))
  have h2 := ih (by omega) (by omega) (fun k h1 h2 => hf k h1 (by omega))
  rw [stL]; omega
def bump (R : List (Nat × Nat)) : List (Nat × Nat) := R.dropLast ++ match R.getLast? with
 | none => []
 | some x => [(x.1, x.2 + 1)]
theorem bump_snoc (R : List (Nat × Nat)) (s c : Nat) : bump (R ++ [(s, c)]) = R ++ [(s, c + 1)] := by simp [bump]
def rs (l : List UInt8) : Nat -> List (Nat × Nat)
 | 0 => []
 | i + 1 => if bt l i = true then rs l i else bump (if i = 0 \/ bt l (i - 1) = true then rs l i ++ [(i, 0)] else rs l i)
def tot (R : List (Nat × Nat)) : Nat := (R.map (·.2)).sum
def RO (l : List UInt8) (m : Nat) : Int -> List (Nat × Nat) -> Prop
 | e, [] => ∀ k : Nat, e < k -> k < m -> bt l k = true
 | e, x :: R => e < x.1 /\ 1 <= x.2 /\ x.1 + x.2 <= m /\ (∀ k : Nat, e < k -> k < x.1 -> bt l k = true) /\ (∀ k, x.1 <= k -> k < x.1 + x.2 -> bt l k = false) /\ (0 < x.1 -> bt l (x.1 - 1) = true) /\ (x.1 + x.2 < m -> bt l (x.1 + x.2) = true) /\ RO l m ((x.1 + x.2 : Nat) : Int) R
theorem RO.used {l : List UInt8} {i : Nat} {e : Int} {R : List (Nat × Nat)} (h : RO l i e R) (hb : bt l i = true) : RO l (i + 1) e R := by
 induction R generalizing e with
 | nil =>
  intro k h1 h2
  by_cases e1 : k = i
  ·rw [e1]; exact hb
  ·exact h k h1 (by omega)
 | cons x R ih =>
  obtain ⟨h1, h2, h3, h4, h5, h6, h7, h8⟩ := h
  refine ⟨h1, h2, by omega, h4, h5, h6, ?_, ih h8⟩
  intro h9
  by_cases e1 : x.1 + x.2 = i
  ·rw [e1]; exact hb
  ·exact h7 (by omega)
theorem RO.new {l : List UInt8} {i : Nat} {e : Int} {R : List (Nat × Nat)} (h : RO l i e R) (he : e < i) (hb : bt l i = false) (hp : 0 < i -> bt l (i - 1) = true) : RO l (i + 1) e (R ++ [(i, 1)]) := by
 induction R generalizing e with
 | nil =>
  refine ⟨he, Nat.le_refl _, Nat.le_refl _, h, ?_, hp, (fun h => absurd h (Nat.lt_irrefl _)), ?_⟩
  ·intro k h1 h2
   have h3 : k = i := by simp only at h1 h2; omega
   rw [h3]; exact hb
  ·intro k h1 h2; simp only at h1; omega
 | cons x R ih =>
  obtain ⟨h1, h2, h3, h4, h5, h6, h7, h8⟩ := h
  have hlt : x.1 + x.2 < i := by
   by_cases e1 : x.1 + x.2 = i
   ·have h9 := h5 (i - 1) (by omega) (by omega)
    rw [hp (by omega)] at h9; cases h9
   ·omega
  exact ⟨h1, h2, by omega, h4, h5, h6, (fun _ => h7 hlt), ih h8 (by omega)⟩
theorem RO.lt {l : List UInt8} {m : Nat} {e : Int} {R : List (Nat × Nat)} {x : Nat × Nat} (h : RO l m e (R ++ [x])) : e < m := by
 cases R with
 | nil => obtain ⟨h1, h2, h3, _⟩ := h; omega
 | cons y R => obtain ⟨h1, h2, h3, _⟩ := h; omega
theorem RO.bump {l : List UInt8} {i : Nat} {e : Int} {R : List (Nat × Nat)} {s c : Nat} (h : RO l i e (R ++ [(s, c)])) (h0 : 0 < i) (hb : bt l i = false) (hp : bt l (i - 1) = false) : RO l (i + 1) e (R ++ [(s, c + 1)]) := by
 induction R generalizing e with
 | nil =>
  obtain ⟨h1, h2, h3, h4, h5, h6, h7, h8⟩ := h
  simp only at h1 h2 h3 h4 h5 h6 h7 h8
  have hsc : s + c = i := by
   by_cases e1 : s + c = i
   ·exact e1
   ·exfalso
    have h9 := h7 (by omega)
    by_cases e2 : s + c = i - 1
    ·rw [e2, hp] at h9; cases h9
    ·have := h8 (i - 1) (by omega) (by omega)
     rw [hp] at this; cases this
  refine ⟨h1, by simp only; omega, by simp only; omega, h4, ?_, h6, (fun h => by simp only at h; omega), ?_⟩
  ·intro k k1 k2
   simp only at k1 k2
   by_cases e1 : k = i
   ·rw [e1]; exact hb
   ·exact h5 k k1 (by omega)
  ·intro k h1 h2; simp only at h1; omega
 | cons x R ih =>
  obtain ⟨h1, h2, h3, h4, h5, h6, h7, h8⟩ := h
  have hlt := h8.lt
  exact ⟨h1, h2, by omega, h4, h5, h6, (fun _ => h7 (by omega)), ih h8⟩
theorem rs_ok (l : List UInt8) (m : Nat) : RO l m (-1) (rs l m) := by
 induction m with
 | zero => intro k h1 h2; omega
 | succ i ih =>
  rw [rs]
  by_cases hb : bt l i = true
  ·rw [if_pos hb]; exact ih.used hb
  ·rw [if_neg hb]
   have hb' : bt l i = false := by simpa using hb
   by_cases hc : i = 0 \/ bt l (i - 1) = true
   ·rw [if_pos hc, bump_snoc]
    exact ih.new (by omega) hb' (fun h => by rcases hc with hc | hc; omega; exact hc)
   ·rw [if_neg hc]
    have h0 : 0 < i := by omega
    have hp : bt l (i - 1) = false := by
     cases hx : bt l (i - 1)
     ·rfl
     ·exact absurd (.inr hx) hc
    rcases List.eq_nil_or_concat (rs l i) with he | ⟨R, x, he⟩
    ·rw [he] at ih
     have := ih (i - 1) (by omega) (by omega)
     rw [hp] at this; cases this
    ·rw [List.concat_eq_append] at he
     rw [he] at ih ⊢
     have e2 : x = (x.1, x.2) := rfl
     rw [e2] at ih ⊢
     rw [bump_snoc]
     exact ih.bump h0 hb' hp
theorem rs_len (l : List UInt8) (m : Nat) : (rs l m).length <= m := by
 induction m with
 | zero => exact Nat.le_refl _
 | succ i ih =>
  rw [rs]
  split
  ·omega
  ·have hb : ∀ R : List (Nat × Nat), (bump R).length = R.length := by
    intro R
    rcases List.eq_nil_or_concat R with he | ⟨R', x, he⟩
    ·subst he; rfl
    ·rw [List.concat_eq_append] at he
     subst he; have e2 : x = (x.1, x.2) := rfl
     rw [e2, bump_snoc]; simp
   rw [hb]
   split
   ·simp; omega
   ·omega
def fits (l : List UInt8) (m c s : Nat) : Bool := decide (1 <= c /\ s + c <= m) && (List.range c).all fun k => !bt l (s + k)
def fit (l : List UInt8) (m c : Nat) : Option Nat := (List.range m).find? (fits l m c)
theorem fits_iff {l : List UInt8} {m c s : Nat} : fits l m c s = true ↔ 1 <= c /\ s + c <= m /\ ∀ k, s <= k -> k < s + c -> bt l k = false := by
 unfold fits
 simp only [Bool.and_eq_true, decide_eq_true_eq, List.all_eq_true, List.mem_range, Bool.not_eq_true']
 constructor
 ·rintro ⟨⟨h1, h2⟩, h3⟩
  refine ⟨h1, h2, fun k a b => ?_⟩
  have := h3 (k - s) (by omega)
  rwa [show s + (k - s) = k by omega] at this
 ·rintro ⟨h1, h2, h3⟩
  exact ⟨⟨h1, h2⟩, fun k hk => h3 _ (by omega) (by omega)⟩
theorem fits_no {l : List UInt8} {m c s : Nat} (h : ¬ (1 <= c /\ s + c <= m /\ ∀ k, s <= k -> k < s + c -> bt l k = false)) : fits l m c s = false := by
 cases hx : fits l m c s
 ·rfl
 ·exact absurd (fits_iff.1 hx) h
theorem fit_some {l : List UInt8} {m c s : Nat} (h : fits l m c s = true) (hl : ∀ t, t < s -> fits l m c t = false) : fit l m c = some s := by
 unfold fit
 rw [List.find?_range_eq_some]
 have := fits_iff.1 h
 exact ⟨h, by rw [List.mem_range]; omega, fun j hj => by rw [hl j hj]; rfl⟩
theorem fit_none {l : List UInt8} {m c : Nat} (h : ∀ t, fits l m c t = false) : fit l m c = none := by
 unfold fit
 rw [List.find?_eq_none]
 intro x _ hx
 rw [h x] at hx; cases hx
theorem fit_is {l : List UInt8} {m c s : Nat} (h : fit l m c = some s) : fits l m c s = true /\ ∀ t, t < s -> fits l m c t = false := by
 unfold fit at h
 rw [List.find?_range_eq_some] at h
 exact ⟨h.1, fun t ht => by simpa using h.2.2 t ht⟩
def rn (l : List UInt8) : Nat -> Nat
 | 0 => 0
 | i + 1 => if bt l i = true then 0 else rn l i + 1
theorem rn_le (l : List UInt8) (i : Nat) : rn l i <= i := by
 induction i with
 | zero => exact Nat.le_refl _
 | succ i ih => rw [rn]; split <;> omega
theorem rn_free (l : List UInt8) (i k : Nat) (h1 : i - rn l i <= k) (h2 : k < i) : bt l k = false := by
 induction i with
 | zero => omega
 | succ i ih =>
  rw [rn] at h1
  by_cases hb : bt l i = true
  ·rw [if_pos hb] at h1; omega
  ·rw [if_neg hb] at h1
   by_cases e : k = i
   ·rw [e]; simpa using hb
   ·exact ih (by omega) (by omega)
theorem rn_most (l : List UInt8) (i d : Nat) (hd : d <= i) (h : ∀ k, i - d <= k -> k < i -> bt l k = false) : d <= rn l i := by
 induction i generalizing d with
 | zero => omega
 | succ i ih =>
  cases d with
  | zero => omega
  | succ d =>
   have hb := h i (by omega) (by omega)
   rw [rn, if_neg (by simp [hb])]
   have := ih d (by omega) (fun k a b => h k (by omega) (by omega))
   omega
def NoFit (l : List UInt8) (c i : Nat) : Prop := ∀ s, s + c <= i -> 1 <= c -> ∃ k, s <= k /\ k < s + c /\ bt l k = true
theorem NoFit.zero (l : List UInt8) (c : Nat) : NoFit l c 0 := fun s h1 h2 => by omega
theorem NoFit.step {l : List UInt8} {c i : Nat} (h : NoFit l c i) (hn : bt l i = true \/ rn l i + 1 ≠ c) : NoFit l c (i + 1) := by
 intro s h1 h2
 by_cases e : s + c <= i
 ·exact h s e h2
 ·have he : s + c = i + 1 := by omega
  by_cases hb : bt l i = true
  ·exact ⟨i, by omega, by omega, hb⟩
  ·rcases hn with hn | hn
   ·exact absurd hn hb
   ·apply Classical.byContradiction
    intro hall
    have hf : ∀ k, s <= k -> k < s + c -> bt l k = false := fun k a b => by
     cases hx : bt l k
     ·rfl
     ·exact absurd ⟨k, a, b, hx⟩ hall
    have hm := rn_most l i (c - 1) (by omega) (fun k a b => hf k (by omega) (by omega))
    have hge : c <= rn l i := by omega
    have hle := rn_le l i
    obtain ⟨k, k1, k2, k3⟩ := h (i - c) (by omega) h2
    rw [rn_free l i k (by omega) (by omega)] at k3
    cases k3
theorem NoFit.found {l : List UInt8} {c i m : Nat} (h : NoFit l c i) (hi : i < m) (hb : bt l i = false) (hc : rn l i + 1 = c) : fit l m c = some (i + 1 - c) := by
 have hle := rn_le l i
 apply fit_some
 ·rw [fits_iff]
  refine ⟨by omega, by omega, fun k a b => ?_⟩
  by_cases e : k = i
  ·rw [e]; exact hb
  ·exact rn_free l i k (by omega) (by omega)
 ·intro t ht
  apply fits_no
  rintro ⟨h1, h2, h3⟩
  obtain ⟨k, k1, k2, k3⟩ := h t (by omega) h1
  rw [h3 k k1 k2] at k3; cases k3
theorem NoFit.none {l : List UInt8} {c m : Nat} (h : NoFit l c m) : fit l m c = none := by
 apply fit_none
 intro t
 apply fits_no
 rintro ⟨h1, h2, h3⟩
 obtain ⟨k, k1, k2, k3⟩ := h t h2 h1
 rw [h3 k k1 k2] at k3; cases k3
def Short (l : List UInt8) (m c : Nat) (R : List (Nat × Nat)) : Prop := ∃ e : Int, RO l m e R /\ ∀ s : Nat, (s : Int) <= e -> fits l m c s = false
theorem Short.step {l : List UInt8} {m c : Nat} {x : Nat × Nat} {R : List (Nat × Nat)} (h : Short l m c (x :: R)) (hx : x.2 < c) : Short l m c R := by
 obtain ⟨e, ⟨h1, h2, h3, h4, h5, h6, h7, h8⟩, hs⟩ := h
 refine ⟨_, h8, fun s hse => ?_⟩
 by_cases e1 : (s : Int) <= e
 ·exact hs s e1
 ·apply fits_no
  rintro ⟨f1, f2, f3⟩
  by_cases e2 : s < x.1
  ·have := f3 s (by omega) (by omega)
   rw [h4 s (by omega) e2] at this; cases this
  ·have := f3 (x.1 + x.2) (by omega) (by omega)
   rw [h7 (by omega)] at this; cases this
theorem Short.found {l : List UInt8} {m c : Nat} {x : Nat × Nat} {R : List (Nat × Nat)} (h : Short l m c (x :: R)) (hx : c <= x.2) (hc : 1 <= c) : fit l m c = some x.1 := by
 obtain ⟨e, ⟨h1, h2, h3, h4, h5, h6, h7, h8⟩, hs⟩ := h
 apply fit_some
 ·rw [fits_iff]; exact ⟨hc, by omega, fun k a b => h5 k a (by omega)⟩
 ·intro t ht
  by_cases e1 : (t : Int) <= e
  ·exact hs t e1
  ·apply fits_no
   rintro ⟨f1, f2, f3⟩
   have := f3 t (by omega) (by omega)
   rw [h4 t (by omega) ht] at this; cases this
theorem Short.none {l : List UInt8} {m c : Nat} (h : Short l m c []) : fit l m c = none := by
 obtain ⟨e, h1, hs⟩ := h
 apply fit_none
 intro t
 by_cases e1 : (t : Int) <= e
 ·exact hs t e1
 ·apply fits_no
  rintro ⟨f1, f2, f3⟩
  have := f3 t (by omega) (by omega)
  rw [h1 t (by omega) (by omega)] at this; cases this
end Go.Proofs.YthambopnmhkeeaaGreat.Bm
