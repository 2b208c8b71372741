/- The last statement of WireLinear, whose order is open: four sums of texts that are made anew, in whatever order: by an invariant. -/
import Derived.Test.YtojneafmdlohoaaWShown
import Derived.Test.YtojneafmdlohoaaWInv
namespace Go.Proofs.Ytojneafmdlohoaa
open Go.RowKit

/-- A slice of one text. -/
def One (w : World) (v : Value) (X : ByteArray) : Prop := ∃ b, v = .slice (some ⟨b, 0, none⟩) 1 1 ∧ b < w.heap.size ∧ w.cell? ⟨b, 0, none⟩ = some (.string X)
theorem One.mono {w w' : World} {v : Value} {X : ByteArray} (h : One w v X) (hb : Below w.heap.size w w') : One w' v X := by
  obtain ⟨b, hv, hlt, hc⟩ := h
  exact ⟨b, hv, Nat.lt_of_lt_of_le hlt hb.size, by rw [hb.cell (p := ⟨b, 0, none⟩) hlt]; exact hc⟩
theorem One.crc {w : World} {v : Value} {X : ByteArray} (h : One w v X) (hX : X.size ≤ maxLen) :
    Calls Try.prog 12 #[v] w fun e w' => e = .returned (.int .u32 ((crcL X.data.toList : Nat) : Int)) ∧ w = w' := by
  obtain ⟨b, rfl, hlt, hc⟩ := h
  have := crc_some [X] b 0 1 w (by unfold maxLen; simp) (fun s hs => by simp at hs; subst hs; exact hX) (fun j hj => by
    obtain rfl : j = 0 := by simp at hj; omega
    exact hc)
  refine this.mono fun e w' ⟨he, hw⟩ => ⟨?_, hw⟩
  rw [he]; simp [joinB]
theorem one_new (w : World) (X : ByteArray) : (Instr.buildSlice 46 1 #[(0, .string X)]).run Try.prog w = .ok (.slice (some ⟨w.heap.size, 0, none⟩) 1 1) (w.alloc (.cells #[.string X] 9)) := by
  kernel_rfl
theorem One.new (w : World) (X : ByteArray) : One (w.alloc (.cells #[.string X] 9)) (.slice (some ⟨w.heap.size, 0, none⟩) 1 1) X :=
  ⟨_, rfl, by simp, by rw [cell_at (heap_alloc_new ..)]; rfl⟩

/-- What each slot holds. -/
def LinSpec (a b c X A B C : ByteArray) (n g : Nat) : Nat → Value → World → Prop
  | 0, v, _ => v = .string a
  | 1, v, _ => v = .string b
  | 2, v, _ => v = .string c
  | 8, v, _ => v = .int .i64 (n : Int)
  | 9, v, _ => v = .slice (some ⟨g, 0, none⟩) n n
  | 48, v, _ => v = .slice (some ⟨g, 0, none⟩) n n
  | 49, v, _ => v = .string X
  | 50, v, w => One w v X
  | 51, v, _ => v = .int .u32 ((crcL X.data.toList : Nat) : Int)
  | 52, v, _ => v = .string a
  | 53, v, _ => v = .int .i64 (n : Int)
  | 54, v, _ => v = .string A
  | 55, v, w => One w v A
  | 56, v, _ => v = .int .u32 ((crcL A.data.toList : Nat) : Int)
  | 57, v, _ => v = .string b
  | 58, v, _ => v = .int .i64 (n : Int)
  | 59, v, _ => v = .string B
  | 60, v, w => One w v B
  | 61, v, _ => v = .int .u32 ((crcL B.data.toList : Nat) : Int)
  | 62, v, _ => v = .int .u32 ((crcL A.data.toList ^^^ crcL B.data.toList : Nat) : Int)
  | 63, v, _ => v = .string c
  | 64, v, _ => v = .int .i64 (n : Int)
  | 65, v, _ => v = .string C
  | 66, v, w => One w v C
  | 67, v, _ => v = .int .u32 ((crcL C.data.toList : Nat) : Int)
  | 68, v, _ => v = .int .u32 ((crcL A.data.toList ^^^ crcL B.data.toList ^^^ crcL C.data.toList : Nat) : Int)
  | 69, v, _ => v = .bool true
  | 6, v, _ => v = .bool true
  | _, _, _ => True
theorem LinSpec.mono {a b c X A B C : ByteArray} {n g : Nat} {w w' : World} (hb : Below w.heap.size w w') : ∀ k u, LinSpec a b c X A B C n g k u w → LinSpec a b c X A B C n g k u w' := by
  intro k u h
  unfold LinSpec at h ⊢
  split at h <;> first | exact h | exact h.mono hb

theorem lin_shape : (opsOf Try.f10 10).toList.map shapeOf = [
    (some 48, .move (.tmp 9), true), (some 49, .convert 41 9 (.tmp 48), true), (some 50, .buildSlice 46 1 #[(0, .tmp 49)], true), (some 51, .call { callee := .value (.func 12), args := #[.tmp 50], argTypes := #[46] }, true),
    (some 52, .move (.tmp 0), true), (some 53, .move (.tmp 8), true), (some 54, .slice 9 (.tmp 52) none (some (.tmp 53)) none, true), (some 55, .buildSlice 46 1 #[(0, .tmp 54)], true), (some 56, .call { callee := .value (.func 12), args := #[.tmp 55], argTypes := #[46] }, true),
    (some 57, .move (.tmp 1), true), (some 58, .move (.tmp 8), true), (some 59, .slice 9 (.tmp 57) none (some (.tmp 58)) none, true), (some 60, .buildSlice 46 1 #[(0, .tmp 59)], true), (some 61, .call { callee := .value (.func 12), args := #[.tmp 60], argTypes := #[46] }, true),
    (some 62, .binOp .xor 23 (.tmp 56) (.tmp 61) 23, true),
    (some 63, .move (.tmp 2), true), (some 64, .move (.tmp 8), true), (some 65, .slice 9 (.tmp 63) none (some (.tmp 64)) none, true), (some 66, .buildSlice 46 1 #[(0, .tmp 65)], true), (some 67, .call { callee := .value (.func 12), args := #[.tmp 66], argTypes := #[46] }, true),
    (some 68, .binOp .xor 23 (.tmp 62) (.tmp 67) 23, true), (some 69, .binOp .eql 23 (.tmp 51) (.tmp 68) 23, true), (some 6, .assign (.tmp 69), true)] := by kernel_rfl
theorem lin_own : ownSlots (opsOf Try.f10 10) [0, 1, 2, 8, 9] 70 = true := by kernel_rfl

theorem cut_to (s : ByteArray) (n : Nat) (h : n ≤ s.size) (w : World) : (Instr.sliceAt 9 (.string s) none (some (.int .i64 (n : Int))) none).run Try.prog w = .ok (.string (s.extract 0 n)) w := by
  simp [Instr.sliceAt, go_sem, Try.underlying9, h]
theorem xor_run (x y : Nat) (hx : x < 4294967296) (hy : y < 4294967296) (e f : Nat) (w : World) :
    (do eqGuard .xor 23 (.tmp e) (.tmp f) (.int .u32 (x : Int)) (.int .u32 (y : Int)); binOp .xor 23 (.int .u32 (x : Int)) (.int .u32 (y : Int)) : Sem Value).run Try.prog w = .ok (.int .u32 ((x ^^^ y : Nat) : Int)) w := by
  rw [← xor_u32 x y hx hy]
  simp [go_sem, eqGuard]
theorem eql_run (x : Int) (e f : Nat) (w : World) :
    (do eqGuard .eql 23 (.tmp e) (.tmp f) (.int .u32 x) (.int .u32 x); binOp .eql 23 (.int .u32 x) (.int .u32 x) : Sem Value).run Try.prog w = .ok (.bool true) w := by
  simp [go_sem, eqGuard]
theorem call_run {a : Act} {o : Oper} {e : Nat} {v : Value} (ho : o.op = .call { callee := .value (.func 12), args := #[.tmp e], argTypes := #[46] }) (hv : a.tmps.getD e undef = v) (w : World) : (execOp a.eval o).run Try.prog w = .ok (.enter 12 #[v]) w := by
  subst hv
  unfold execOp
  simp only [ho, resolve, Act.eval]
  kernel_rfl

section
variable {Q : Exit → Act → World → Prop} {a b c A B C : ByteArray} {n g : Nat} {w0 : World} {l : List UInt8}

theorem lin_step {ops : Array Oper} (hops : ops = opsOf Try.f10 10) (hA : a.extract 0 n = A) (hB : b.extract 0 n = B) (hC : c.extract 0 n = C) (hla : n ≤ a.size) (hlb : n ≤ b.size) (hlc : n ≤ c.size) (hn : n ≤ 3000)
    (hsA : A.size ≤ 3000) (hsB : B.size ≤ 3000) (hsC : C.size ≤ 3000) (hl : l.length = n) (hrow : BRow g w0 (.slice (some ⟨g, 0, none⟩) n n) l) (hsum : crcL l = crcL A.data.toList ^^^ crcL B.data.toList ^^^ crcL C.data.toList) :
    ∀ listed x w, Inv ops (LinSpec a b c (bs l) A B C n g) [0, 1, 2, 8, 9] 70 (fun w => Below w0.heap.size w0 w) listed x w → ∀ i ∈ Region.ready .any ops listed,
      wpOp Try.prog ops Q i (fun a' w' => Inv ops (LinSpec a b c (bs l) A B C n g) [0, 1, 2, 8, 9] 70 (fun w => Below w0.heap.size w0 w) (listed.setIfInBounds i true) a' w') x w := by
  subst hops
  intro listed x w h i hr
  obtain ⟨_, o, ho, _⟩ := mem_ready.1 hr
  have hm : ∀ k : Nat, k ≤ 3000 → k ≤ maxLen := fun k hk => by unfold maxLen; omega
  have hX : (bs l).size ≤ maxLen := hm _ (by rw [bs_size]; omega)
  have hlt : i < 23 := by
    have h1 := (Array.getElem?_eq_some_iff.1 ho).1
    have h2 : (opsOf Try.f10 10).size = 23 := by kernel_rfl
    omega
  have mkOne : ∀ {o : Oper} {i e d : Nat} {X : ByteArray}, (opsOf Try.f10 10)[i]? = some o → o.dst = some d ∧ o.op = .buildSlice 46 1 #[(0, .tmp e)] ∧ o.guard = none → x.tmps.getD e undef = .string X → (∀ w v, One w v X → LinSpec a b c (bs l) A B C n g d v w) →
      wpOp Try.prog (opsOf Try.f10 10) Q i (fun a' w' => Inv (opsOf Try.f10 10) (LinSpec a b c (bs l) A B C n g) [0, 1, 2, 8, 9] 70 (fun w => Below w0.heap.size w0 w) (listed.setIfInBounds i true) a' w') x w := by
    intro o i e d X hi ⟨hd, hop, hg⟩ hv hS
    have hb : Below w.heap.size w (w.alloc (.cells #[.string X] 9)) := (Below.refl _ _).alloc (Nat.le_refl _) _
    exact h.val lin_own hi hd hg (ex_build hop hv (one_new w X)) (below_next h.world (Nat.le_refl _) hb) (LinSpec.mono hb) (hS _ _ (One.new w X))
  have mkCrc : ∀ {o : Oper} {i e d : Nat} {X : ByteArray}, (opsOf Try.f10 10)[i]? = some o → o.dst = some d ∧ o.op = .call { callee := .value (.func 12), args := #[.tmp e], argTypes := #[46] } ∧ o.guard = none → One w (x.tmps.getD e undef) X → X.size ≤ maxLen →
      (∀ w, LinSpec a b c (bs l) A B C n g d (.int .u32 ((crcL X.data.toList : Nat) : Int)) w) →
      wpOp Try.prog (opsOf Try.f10 10) Q i (fun a' w' => Inv (opsOf Try.f10 10) (LinSpec a b c (bs l) A B C n g) [0, 1, 2, 8, 9] 70 (fun w => Below w0.heap.size w0 w) (listed.setIfInBounds i true) a' w') x w := by
    intro o i e d X hi ⟨hd, hop, hg⟩ hv hX hS
    refine step_calls hi hg (call_run hop rfl w) (hv.crc hX) ?_
    rintro w' rfl
    exact h.put lin_own hi hd h.world (fun _ _ y => y) (hS _)
  match i, hlt with
  | 0, _ =>
    obtain ⟨hd, hop, hg⟩ := shape_is lin_shape ho (d := 48) rfl
    exact h.val' lin_own ho hd hg (ex_move hop) (h.base 9 (by decide))
  | 1, _ =>
    obtain ⟨hd, hop, hg⟩ := shape_is lin_shape ho (d := 49) rfl
    have hv : x.tmps.getD 48 undef = .slice (some ⟨g, 0, none⟩) n n := h.seen lin_shape hr 0 rfl (by kernel_rfl)
    exact h.val' lin_own ho hd hg (ex_convert hop hv (BRow.text (own_below hrow h.world))) rfl
  | 2, _ => exact mkOne ho (shape_is lin_shape ho (d := 50) rfl) (h.seen lin_shape hr 1 rfl (by kernel_rfl) : x.tmps.getD 49 undef = .string (bs l)) (fun _ _ y => y)
  | 3, _ => exact mkCrc ho (shape_is lin_shape ho (d := 51) rfl) (h.seen lin_shape hr 2 rfl (by kernel_rfl) : One w (x.tmps.getD 50 undef) (bs l)) hX (fun _ => rfl)
  | 4, _ =>
    obtain ⟨hd, hop, hg⟩ := shape_is lin_shape ho (d := 52) rfl
    exact h.val' lin_own ho hd hg (ex_move hop) (h.base 0 (by decide))
  | 5, _ =>
    obtain ⟨hd, hop, hg⟩ := shape_is lin_shape ho (d := 53) rfl
    exact h.val' lin_own ho hd hg (ex_move hop) (h.base 8 (by decide))
  | 6, _ =>
    obtain ⟨hd, hop, hg⟩ := shape_is lin_shape ho (d := 54) rfl
    have hv : x.tmps.getD 52 undef = .string a := h.seen lin_shape hr 4 rfl (by kernel_rfl)
    have hu : x.tmps.getD 53 undef = .int .i64 (n : Int) := h.seen lin_shape hr 5 rfl (by kernel_rfl)
    exact h.val' lin_own ho hd hg (ex_slice hop hv hu (cut_to a n hla w)) (by rw [hA]; rfl)
  | 7, _ => exact mkOne ho (shape_is lin_shape ho (d := 55) rfl) (h.seen lin_shape hr 6 rfl (by kernel_rfl) : x.tmps.getD 54 undef = .string A) (fun _ _ y => y)
  | 8, _ => exact mkCrc ho (shape_is lin_shape ho (d := 56) rfl) (h.seen lin_shape hr 7 rfl (by kernel_rfl) : One w (x.tmps.getD 55 undef) A) (hm _ hsA) (fun _ => rfl)
  | 9, _ =>
    obtain ⟨hd, hop, hg⟩ := shape_is lin_shape ho (d := 57) rfl
    exact h.val' lin_own ho hd hg (ex_move hop) (h.base 1 (by decide))
  | 10, _ =>
    obtain ⟨hd, hop, hg⟩ := shape_is lin_shape ho (d := 58) rfl
    exact h.val' lin_own ho hd hg (ex_move hop) (h.base 8 (by decide))
  | 11, _ =>
    obtain ⟨hd, hop, hg⟩ := shape_is lin_shape ho (d := 59) rfl
    have hv : x.tmps.getD 57 undef = .string b := h.seen lin_shape hr 9 rfl (by kernel_rfl)
    have hu : x.tmps.getD 58 undef = .int .i64 (n : Int) := h.seen lin_shape hr 10 rfl (by kernel_rfl)
    exact h.val' lin_own ho hd hg (ex_slice hop hv hu (cut_to b n hlb w)) (by rw [hB]; rfl)
  | 12, _ => exact mkOne ho (shape_is lin_shape ho (d := 60) rfl) (h.seen lin_shape hr 11 rfl (by kernel_rfl) : x.tmps.getD 59 undef = .string B) (fun _ _ y => y)
  | 13, _ => exact mkCrc ho (shape_is lin_shape ho (d := 61) rfl) (h.seen lin_shape hr 12 rfl (by kernel_rfl) : One w (x.tmps.getD 60 undef) B) (hm _ hsB) (fun _ => rfl)
  | 14, _ =>
    obtain ⟨hd, hop, hg⟩ := shape_is lin_shape ho (d := 62) rfl
    have hv : x.tmps.getD 56 undef = .int .u32 ((crcL A.data.toList : Nat) : Int) := h.seen lin_shape hr 8 rfl (by kernel_rfl)
    have hu : x.tmps.getD 61 undef = .int .u32 ((crcL B.data.toList : Nat) : Int) := h.seen lin_shape hr 13 rfl (by kernel_rfl)
    exact h.val' lin_own ho hd hg (ex_bin hop hv hu (xor_run _ _ (crcL_lt _) (crcL_lt _) _ _ w)) rfl
  | 15, _ =>
    obtain ⟨hd, hop, hg⟩ := shape_is lin_shape ho (d := 63) rfl
    exact h.val' lin_own ho hd hg (ex_move hop) (h.base 2 (by decide))
  | 16, _ =>
    obtain ⟨hd, hop, hg⟩ := shape_is lin_shape ho (d := 64) rfl
    exact h.val' lin_own ho hd hg (ex_move hop) (h.base 8 (by decide))
  | 17, _ =>
    obtain ⟨hd, hop, hg⟩ := shape_is lin_shape ho (d := 65) rfl
    have hv : x.tmps.getD 63 undef = .string c := h.seen lin_shape hr 15 rfl (by kernel_rfl)
    have hu : x.tmps.getD 64 undef = .int .i64 (n : Int) := h.seen lin_shape hr 16 rfl (by kernel_rfl)
    exact h.val' lin_own ho hd hg (ex_slice hop hv hu (cut_to c n hlc w)) (by rw [hC]; rfl)
  | 18, _ => exact mkOne ho (shape_is lin_shape ho (d := 66) rfl) (h.seen lin_shape hr 17 rfl (by kernel_rfl) : x.tmps.getD 65 undef = .string C) (fun _ _ y => y)
  | 19, _ => exact mkCrc ho (shape_is lin_shape ho (d := 67) rfl) (h.seen lin_shape hr 18 rfl (by kernel_rfl) : One w (x.tmps.getD 66 undef) C) (hm _ hsC) (fun _ => rfl)
  | 20, _ =>
    obtain ⟨hd, hop, hg⟩ := shape_is lin_shape ho (d := 68) rfl
    have hv : x.tmps.getD 62 undef = .int .u32 ((crcL A.data.toList ^^^ crcL B.data.toList : Nat) : Int) := h.seen lin_shape hr 14 rfl (by kernel_rfl)
    have hu : x.tmps.getD 67 undef = .int .u32 ((crcL C.data.toList : Nat) : Int) := h.seen lin_shape hr 19 rfl (by kernel_rfl)
    exact h.val' lin_own ho hd hg (ex_bin hop hv hu (xor_run _ _ (xor_lt32 _ _ (crcL_lt _) (crcL_lt _)) (crcL_lt _) _ _ w)) rfl
  | 21, _ =>
    obtain ⟨hd, hop, hg⟩ := shape_is lin_shape ho (d := 69) rfl
    have hv : x.tmps.getD 51 undef = .int .u32 ((crcL l : Nat) : Int) := h.seen lin_shape hr 3 rfl (by kernel_rfl)
    have hu : x.tmps.getD 68 undef = .int .u32 ((crcL A.data.toList ^^^ crcL B.data.toList ^^^ crcL C.data.toList : Nat) : Int) := h.seen lin_shape hr 20 rfl (by kernel_rfl)
    rw [← hsum] at hu
    exact h.val' lin_own ho hd hg (ex_bin hop hv hu (eql_run _ _ _ w)) rfl
  | 22, _ =>
    obtain ⟨hd, hop, hg⟩ := shape_is lin_shape ho (d := 6) rfl
    exact h.val' lin_own ho hd hg (ex_assign hop) (h.seen lin_shape hr 21 rfl (by kernel_rfl) : x.tmps.getD 69 undef = .bool true)
  | k + 23, hk => omega
end
end Go.Proofs.Ytojneafmdlohoaa
