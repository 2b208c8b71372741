/- Numbers of four bytes: what Fixed and ToFixed answer, and the document's own: the same. -/
import Derived.Test.YthambopnmhkeeaaGreatZCalls2
import Derived.Test.YthambopnmhkeeaaGreatZWMath
import Derived.Laws.BytesArg
import Derived.Deep.QuietTactic
import Derived.BigQuiet

set_option maxRecDepth 100000
namespace Go.Proofs.YthambopnmhkeeaaGreat.Fr
open Go.RowKit
def bs (l : List UInt8) : ByteArray := ⟨l.toArray⟩
theorem cell_at {w : World} {b : Nat} {cs : Array Value} {t : TypeId} {s : Nat × Nat} {k : Nat} (h : w.heap[b]? = some (.cells cs t s)) : w.cell? ⟨b, k, none⟩ = cs[k]? := by
 simp [World.cell?, h]
theorem conv4 (w : World) (a b c d : Int) : (convert 107 9 (.slice (some ⟨w.heap.size, 0, none⟩) 4 4)).run Tryz.prog (w.alloc (.cells #[.int .u8 a, .int .u8 b, .int .u8 c, .int .u8 d] 5)) = .ok (.string (strOfNums [a, b, c, d])) (w.alloc (.cells #[.int .u8 a, .int .u8 b, .int .u8 c, .int .u8 d] 5)) := by
 refine run_convert_bytes_arg _ 107 5 Tryz.underlying107 Tryz.underlying5 w.heap.size 0 4 4 [a, b, c, d] rfl ?_ 9 Tryz.underlying9
 intro i hi
 rw [cell_at (heap_alloc_new ..)]
 match i, hi with
 | 0, _ => rfl
 | 1, _ => rfl
 | 2, _ => rfl
 | 3, _ => rfl
theorem fix_str (v : Nat) (hv : v < 4294967296) : strOfNums [(v : Int) % 256, (v : Int) / 256 % 256, (v : Int) / 65536 % 256, (v : Int) / 16777216] = bs (fixL v) := by
 have e (x : Nat) : UInt8.ofNat ((x : Int) % 256).toNat = UInt8.ofNat x := by
  apply UInt8.toNat_inj.1
  rw [UInt8.toNat_ofNat', UInt8.toNat_ofNat']
  omega
 have e1 := e v
 have e2 := e (v / 256)
 have e3 := e (v / 65536)
 have e4 := e (v / 16777216)
 have e5 : ((v / 16777216 : Nat) : Int) % 256 = (v : Int) / 16777216 := by omega
 rw [e5] at e4
 unfold strOfNums bs fixL
 simp only [List.map_cons, List.map_nil]
 rw [e1, e4]
 rw [show (v : Int) / 256 = ((v / 256 : Nat) : Int) by omega, e2, show (v : Int) / 65536 = ((v / 65536 : Nat) : Int) by omega, e3]
set_option maxHeartbeats 1000000 in
theorem fixed_any (v : Nat) (w : World) (hv : v < 4294967296) :
  Calls Tryz.prog 135 #[.int .u32 (v : Int)] w fun e w' => e = .returned (.string (bs (fixL v))) /\ Below w.heap.size w w' := by
 have hconv := conv4 w
 have HF := Lib.hid (fix_str v hv)
 go_enter Tryz.func135, Tryz.ntmps135
 go_wp2
 go_ret
 exact ⟨by rw [<- HF.out]; rfl, (Below.refl _ _).alloc (Nat.le_refl _) _⟩
set_option maxHeartbeats 1000000 in
theorem rfixed_any (v : Nat) (w : World) (hv : v < 4294967296) :
  Calls Tryz.prog 143 #[.int .u32 (v : Int)] w fun e w' => e = .returned (.string (bs (fixL v))) /\ Below w.heap.size w w' := by
 have hconv := conv4 w
 have HF := Lib.hid (fix_str v hv)
 go_enter Tryz.func143, Tryz.ntmps143
 go_wp2
 go_ret
 exact ⟨by rw [<- HF.out]; rfl, (Below.refl _ _).alloc (Nat.le_refl _) _⟩
theorem below_drewN {B : Nat} {a w : World} (h : Below B a w) (n : Nat) : Below B a (w.drewN n) := ⟨h.os, h.tape, h.output, h.size, h.block⟩
theorem sum4 (a b c d : UInt8) : (((a.toNat : Int) + 256 * ((b.toNat : Int) % 4294967296) + 65536 * ((c.toNat : Int) % 4294967296)) % 4294967296 + 16777216 * ((d.toNat : Int) % 4294967296) % 4294967296) % 4294967296 = ((unfix a b c d : Nat) : Int) := by
 have ha := byte_lt a; have hb := byte_lt b; have hc := byte_lt c; have hd := byte_lt d
 unfold unfix
 omega
theorem tup3 {x y : Int} (k : IntKind) (s : Value) (b : Value) (h : x = y) : Ending.returned (.tuple #[.int k x, s, b]) = .returned (.tuple #[.int k y, s, b]) := by rw [h]
theorem join_or (i x y : Nat) (hx : x % 2 ^ i = 0) (hy : y < 2 ^ i) : y ||| x = y + x := by rw [Nat.or_comm, nat_join i x y hx hy, Nat.add_comm]
theorem or4 (a b c d : UInt8) : bits .or .u32 (bits .or .u32 (bits .or .u32 ((a.toNat : Int) % 4294967296) ((b.toNat : Int) % 4294967296 * 256 % 4294967296)) ((c.toNat : Int) % 4294967296 * 65536 % 4294967296)) ((d.toNat : Int) % 4294967296 * 16777216 % 4294967296) = ((unfix a b c d : Nat) : Int) := by
 have ha := byte_lt a; have hb := byte_lt b; have hc := byte_lt c; have hd := byte_lt d
 rw [show (a.toNat : Int) % 4294967296 = ((a.toNat : Nat) : Int) by omega, show (b.toNat : Int) % 4294967296 * 256 % 4294967296 = ((256 * b.toNat : Nat) : Int) by omega,
  show (c.toNat : Int) % 4294967296 * 65536 % 4294967296 = ((65536 * c.toNat : Nat) : Int) by omega, show (d.toNat : Int) % 4294967296 * 16777216 % 4294967296 = ((16777216 * d.toNat : Nat) : Int) by omega]
 rw [u32_or_nat _ _ (by omega) (by omega), join_or 8 _ _ (by omega) (by omega), u32_or_nat _ _ (by omega) (by omega), join_or 16 _ _ (by omega) (by omega), u32_or_nat _ _ (by omega) (by omega), join_or 24 _ _ (by omega) (by omega)]
 rfl
set_option maxHeartbeats 1000000 in
theorem toFixed_some (s : ByteArray) (w : World) (h4 : 4 <= s.size) (hs : s.size <= maxLen) :
  Calls Tryz.prog 204 #[.string s] w fun e w' => e = .returned (.tuple #[.int .u32 ((unfix s[0] s[1] s[2] s[3] : Nat) : Int), .string (s.extract 4 s.size), .bool true]) /\ Below w.heap.size w w' := by
 unfold maxLen at hs
 have i0 : 0 < s.size := by omega
 have i1 : 1 < s.size := by omega
 have i2 : 2 < s.size := by omega
 have i3 : 3 < s.size := by omega
 have j1 : (1 : Int) < (s.size : Int) := by omega
 have j2 : (2 : Int) < (s.size : Int) := by omega
 have j3 : (3 : Int) < (s.size : Int) := by omega
 have j4 : (4 : Int) <= (s.size : Int) := by omega
 have HV := Lib.hid (or4 s[0] s[1] s[2] s[3])
 go_enter Tryz.func204, Tryz.ntmps204
 go_wp2
 go_quiet (fail)
 rw [HV.out]
 go_wp2
 go_quiet (fail)
 go_wp2
 go_ret3
 exact ⟨rfl, below_drewN (below_drewN (Below.refl _ _) _) _⟩
set_option maxHeartbeats 1000000 in
theorem rtoFixed_some (s : ByteArray) (w : World) (h4 : 4 <= s.size) (hs : s.size <= maxLen) :
  Calls Tryz.prog 179 #[.string s] w fun e w' => e = .returned (.tuple #[.int .u32 ((unfix s[0] s[1] s[2] s[3] : Nat) : Int), .string (s.extract 4 s.size), .bool true]) /\ Below w.heap.size w w' := by
 unfold maxLen at hs
 have i0 : 0 < s.size := by omega
 have i1 : 1 < s.size := by omega
 have i2 : 2 < s.size := by omega
 have i3 : 3 < s.size := by omega
 have j1 : (1 : Int) < (s.size : Int) := by omega
 have j2 : (2 : Int) < (s.size : Int) := by omega
 have j3 : (3 : Int) < (s.size : Int) := by omega
 have j4 : (4 : Int) <= (s.size : Int) := by omega
 go_enter Tryz.func179, Tryz.ntmps179
 go_wp2
 go_quiet (fail)
 go_wp2
 go_ret3
 exact ⟨tup3 _ _ _ (sum4 s[0] s[1] s[2] s[3]), below_drewN (Below.refl _ _) _⟩
end Go.Proofs.YthambopnmhkeeaaGreat.Fr
/- Frames in plain lists: what is packed, what a head tells, what is unpacked; nothing of the program is walked here. -/
namespace Go.Proofs.YthambopnmhkeeaaGreat.Fr
open Go.RowKit
theorem bs_append (l m : List UInt8) : bs l ++ bs m = bs (l ++ m) := by
 apply ByteArray.ext
 rw [ByteArray.data_append]
 unfold bs
 simp
theorem bs_data (s : ByteArray) : bs s.data.toList = s := by
 unfold bs
 rw [Array.toArray_toList]
theorem data_bs (l : List UInt8) : (bs l).data.toList = l := rfl
theorem bs_len (l : List UInt8) : (bs l).size = l.length := rfl
theorem bs_eq {l m : List UInt8} (h : bs l = bs m) : l = m := congrArg (fun b : ByteArray => b.data.toList) h
theorem bs_ext (l : List UInt8) (a b : Nat) : (bs l).extract a b = bs ((l.take b).drop a) := by
 apply ByteArray.ext
 rw [ByteArray.data_extract]
 unfold bs
 apply Array.ext'
 rw [Array.toList_extract]
 simp only [List.extract_eq_take_drop, List.drop_take]
theorem str_same {a b : ByteArray} (h : a = b) : (a.toList == b.toList) = true := by rw [h]; simp
theorem str_diff {a b : ByteArray} (h : a ≠ b) : (a.toList == b.toList) = false := by
 rw [ByteArray.toList_eq, ByteArray.toList_eq, beq_eq_false_iff_ne]
 intro h2
 apply h
 apply ByteArray.ext
 exact Array.ext' h2
theorem str_len (s : ByteArray) : s.data.toList.length = s.size := by simp
def nmAt (l : List UInt8) (i : Nat) : Nat := unfix (l.getD i 0) (l.getD (i + 1) 0) (l.getD (i + 2) 0) (l.getD (i + 3) 0)
theorem nmAt_lt (l : List UInt8) (i : Nat) : nmAt l i < 4294967296 := by
 unfold nmAt unfix
 have h0 := byte_lt (l.getD i 0); have h1 := byte_lt (l.getD (i + 1) 0); have h2 := byte_lt (l.getD (i + 2) 0); have h3 := byte_lt (l.getD (i + 3) 0)
 omega
theorem getD_drop (l : List UInt8) (k i : Nat) : (l.drop k).getD i 0 = l.getD (k + i) 0 := by simp [List.getD]
theorem getD_take (l : List UInt8) (k i : Nat) (h : i < k) : (l.take k).getD i 0 = l.getD i 0 := by simp [List.getD, h]
theorem getD_right (A B : List UInt8) (i : Nat) : (A ++ B).getD (A.length + i) 0 = B.getD i 0 := by
 simp only [List.getD]; rw [List.getElem?_append_right (by omega), Nat.add_sub_cancel_left]
theorem getD_left (A B : List UInt8) (i : Nat) (h : i < A.length) : (A ++ B).getD i 0 = A.getD i 0 := by simp [List.getD, List.getElem?_append_left h]
theorem nmAt_drop (l : List UInt8) (k i : Nat) : nmAt (l.drop k) i = nmAt l (k + i) := by
 unfold nmAt; simp only [getD_drop, Nat.add_assoc]
theorem nmAt_take (l : List UInt8) (k i : Nat) (h : i + 4 <= k) : nmAt (l.take k) i = nmAt l i := by
 unfold nmAt
 rw [getD_take _ _ _ (by omega), getD_take _ _ _ (by omega), getD_take _ _ _ (by omega), getD_take _ _ _ (by omega)]
theorem nmAt_right (A B : List UInt8) (i : Nat) : nmAt (A ++ B) (A.length + i) = nmAt B i := by
 unfold nmAt; simp only [Nat.add_assoc, getD_right]
theorem nmAt_left (A B : List UInt8) (i : Nat) (h : i + 4 <= A.length) : nmAt (A ++ B) i = nmAt A i := by
 unfold nmAt
 rw [getD_left _ _ _ (by omega), getD_left _ _ _ (by omega), getD_left _ _ _ (by omega), getD_left _ _ _ (by omega)]
theorem nmAt_fix (v : Nat) (B : List UInt8) (h : v < 4294967296) : nmAt (fixL v ++ B) 0 = v := by
 rw [nmAt_left _ _ _ (by simp [fixL])]
 exact unfix_fixL v h
theorem fixL_len (v : Nat) : (fixL v).length = 4 := rfl
theorem nmAt_zero (k i : Nat) : nmAt (List.replicate k 0) i = 0 := by
 have e (j : Nat) : (List.replicate k (0 : UInt8)).getD j 0 = 0 := by
  simp only [List.getD, List.getElem?_replicate]; split <;> rfl
 unfold nmAt; rw [e, e, e, e]; rfl
theorem unfix_inj {a b c d a' b' c' d' : UInt8} (h : unfix a b c d = unfix a' b' c' d') : a = a' /\ b = b' /\ c = c' /\ d = d' := by
 unfold unfix at h
 have h0 := byte_lt a; have h1 := byte_lt b; have h2 := byte_lt c; have h3 := byte_lt d
 have k0 := byte_lt a'; have k1 := byte_lt b'; have k2 := byte_lt c'; have k3 := byte_lt d'
 exact ⟨UInt8.toNat_inj.1 (by omega), UInt8.toNat_inj.1 (by omega), UInt8.toNat_inj.1 (by omega), UInt8.toNat_inj.1 (by omega)⟩
theorem four (l : List UInt8) (i : Nat) (h : i + 4 <= l.length) : (l.take (i + 4)).drop i = [l.getD i 0, l.getD (i + 1) 0, l.getD (i + 2) 0, l.getD (i + 3) 0] := by
 have e (j : Nat) (hj : j < l.length) : l.getD j 0 = l[j] := by simp [List.getD, hj]
 rw [e i (by omega), e (i + 1) (by omega), e (i + 2) (by omega), e (i + 3) (by omega), List.drop_take, show i + 4 - i = 4 by omega,
  List.drop_eq_getElem_cons (by omega), List.take_succ_cons, List.drop_eq_getElem_cons (by omega), List.take_succ_cons,
  List.drop_eq_getElem_cons (by omega), List.take_succ_cons, List.drop_eq_getElem_cons (by omega), List.take_succ_cons, List.take_zero]
theorem four_iff (l : List UInt8) (i v : Nat) (h : i + 4 <= l.length) (hv : v < 4294967296) : (l.take (i + 4)).drop i = fixL v ↔ nmAt l i = v := by
 rw [four l i h]
 constructor
 ·intro e
  unfold fixL at e
  simp only [List.cons.injEq, and_true] at e
  obtain ⟨h0, h1, h2, h3⟩ := e
  unfold nmAt
  rw [h0, h1, h2, h3]; exact unfix_fixL v hv
 ·intro e
  have e2 := e.trans (unfix_fixL v hv).symm
  unfold nmAt at e2
  obtain ⟨h0, h1, h2, h3⟩ := unfix_inj e2
  unfold fixL
  rw [h0, h1, h2, h3]
def cdxt : List UInt8 := [67, 68, 88, 84]
def cdxe : List UInt8 := [67, 68, 88, 69]
def numsL (l : List (Int × ByteArray)) : List UInt8 := l.flatMap fun x => fixL x.1.toNat
theorem numsL_len (l : List (Int × ByteArray)) : (numsL l).length = 4 * l.length := by
 induction l with
 | nil => rfl
 | cons x l ih => unfold numsL at *; rw [List.flatMap_cons, List.length_append, ih, fixL_len, List.length_cons]; omega
theorem numsL_snoc (l : List (Int × ByteArray)) (k : Nat) (h : k < l.length) : numsL (l.take (k + 1)) = numsL (l.take k) ++ fixL l[k].1.toNat := by
 rw [List.take_succ_eq_append_getElem h]; unfold numsL; rw [List.flatMap_append]; simp only [List.flatMap_cons, List.flatMap_nil, List.append_nil]
theorem numsL_at (l : List (Int × ByteArray)) (Z : List UInt8) (i : Nat) (h : i < l.length) (hb : ∀ x ∈ l, 0 <= x.1 /\ x.1 < 4096) : nmAt (numsL l ++ Z) (4 * i) = l[i].1.toNat := by
 induction l generalizing i with
 | nil => simp at h
 | cons x l ih =>
  have e : numsL (x :: l) ++ Z = fixL x.1.toNat ++ (numsL l ++ Z) := by unfold numsL; rw [List.flatMap_cons, List.append_assoc]
  rw [e]
  have hx := hb x (List.mem_cons_self ..)
  cases i with
  | zero => exact nmAt_fix _ _ (by omega)
  | succ i =>
   have e2 : 4 * (i + 1) = (fixL x.1.toNat).length + 4 * i := by rw [fixL_len]; omega
   rw [e2, nmAt_right, ih i (by simpa using h) (fun y hy => hb y (List.mem_cons_of_mem _ hy))]; rfl
def begL (seq n : Nat) (l : List (Int × ByteArray)) : List UInt8 := cdxt ++ (fixL (seq % 4294967296) ++ (fixL (seq / 4294967296) ++ (fixL n ++ numsL l)))
theorem begL_len (seq n : Nat) (l : List (Int × ByteArray)) : (begL seq n l).length = 16 + 4 * l.length := by
 unfold begL; simp only [List.length_append, fixL_len, numsL_len, cdxt, List.length_cons, List.length_nil]; omega
theorem begL_snoc (seq n : Nat) (l : List (Int × ByteArray)) (k : Nat) (h : k < l.length) : begL seq n (l.take (k + 1)) = begL seq n (l.take k) ++ fixL l[k].1.toNat := by
 unfold begL; rw [numsL_snoc l k h]; simp only [List.append_assoc]
def headL (seq : Nat) (l : List (Int × ByteArray)) : List UInt8 := begL seq l.length l ++ List.replicate (248 - (16 + 4 * l.length)) 0
theorem headL_len (seq : Nat) (l : List (Int × ByteArray)) (h : l.length <= 48) : (headL seq l).length = 248 := by
 unfold headL; rw [List.length_append, begL_len, List.length_replicate]; omega
def topL (seq : Nat) (l : List (Int × ByteArray)) : List UInt8 := headL seq l ++ (fixL (crcL (headL seq l ++ joinB (l.map (·.2)))) ++ cdxe)
theorem topL_len (seq : Nat) (l : List (Int × ByteArray)) (h : l.length <= 48) : (topL seq l).length = 256 := by
 unfold topL; rw [List.length_append, List.length_append, headL_len seq l h, fixL_len]; rfl
def packL (seq : Nat) (l : List (Int × ByteArray)) : List ByteArray := bs (topL seq l) :: l.map (·.2)
def chk1 (x : Int × ByteArray) : Nat := if x.1 < 0 \/ 4096 <= x.1 then 2 else if x.2.size ≠ 256 then 3 else 0
def chkL : List (Int × ByteArray) -> Nat
 | [] => 0
 | x :: l => if chk1 x = 0 then chkL l else chk1 x
def chk (l : List (Int × ByteArray)) : Nat := if l.length = 0 \/ 48 < l.length then 6 else chkL l
def pk (seq : Nat) (l : List (Int × ByteArray)) : List ByteArray × Nat := if chk l = 0 then (packL seq l, 0) else ([], chk l)
def WrOk (x : Int × ByteArray) : Prop := 0 <= x.1 /\ x.1 < 4096 /\ x.2.size = 256
theorem chk1_ok (x : Int × ByteArray) : chk1 x = 0 ↔ WrOk x := by
 unfold chk1 WrOk
 by_cases h : x.1 < 0 \/ 4096 <= x.1
 ·rw [if_pos h]; constructor
  ·intro h2; omega
  ·intro h2; omega
 ·rw [if_neg h]
  by_cases h2 : x.2.size ≠ 256
  ·rw [if_pos h2]; constructor
   ·intro h2; omega
   ·intro h3; exact absurd h3.2.2 h2
  ·rw [if_neg h2]; constructor
   ·intro _; exact ⟨by omega, by omega, by omega⟩
   ·intro _; rfl
theorem chkL_ok (l : List (Int × ByteArray)) : chkL l = 0 ↔ ∀ x ∈ l, WrOk x := by
 induction l with
 | nil => simp [chkL]
 | cons x l ih =>
  unfold chkL
  by_cases h : chk1 x = 0
  ·rw [if_pos h, ih]
   constructor
   ·intro h2 y hy
    rcases List.mem_cons.1 hy with rfl | hy
    ·exact (chk1_ok _).1 h
    ·exact h2 y hy
   ·intro h2 y hy; exact h2 y (List.mem_cons_of_mem _ hy)
  ·rw [if_neg h]
   constructor
   ·intro h2; exact absurd h2 h
   ·intro h2; exact absurd ((chk1_ok x).2 (h2 x (List.mem_cons_self ..))) h
theorem chkL_drop (l : List (Int × ByteArray)) (k : Nat) (h : k < l.length) (hk : chk1 l[k] = 0) : chkL (l.drop k) = chkL (l.drop (k + 1)) := by
 rw [List.drop_eq_getElem_cons h]; show (if chk1 l[k] = 0 then _ else _) = _; rw [if_pos hk]
theorem chkL_at (l : List (Int × ByteArray)) (k : Nat) (h : k < l.length) (hk : chk1 l[k] ≠ 0) : chkL (l.drop k) = chk1 l[k] := by
 rw [List.drop_eq_getElem_cons h]; show (if chk1 l[k] = 0 then _ else _) = _; rw [if_neg hk]
theorem chk_ok (l : List (Int × ByteArray)) : chk l = 0 ↔ 1 <= l.length /\ l.length <= 48 /\ ∀ x ∈ l, WrOk x := by
 unfold chk
 by_cases h : l.length = 0 \/ 48 < l.length
 ·rw [if_pos h]; constructor
  ·intro h2; omega
  ·intro h2; omega
 ·rw [if_neg h, chkL_ok]; constructor
  ·intro h2; exact ⟨by omega, by omega, h2⟩
  ·intro h2; exact h2.2.2
def takeB (n m : Nat) (q : List UInt8) : Bool := (List.range m).all fun i => if i < n then decide (nmAt q (4 * i) < 4096) else nmAt q (4 * i) == 0
theorem takeB_iff (n m : Nat) (q : List UInt8) : takeB n m q = true ↔ ∀ i, i < m -> (i < n -> nmAt q (4 * i) < 4096) /\ (n <= i -> nmAt q (4 * i) = 0) := by
 unfold takeB
 rw [List.all_eq_true]
 constructor
 ·intro h i hi
  have := h i (List.mem_range.2 hi)
  by_cases hn : i < n
  ·rw [if_pos hn] at this; exact ⟨fun _ => of_decide_eq_true this, fun h2 => by omega⟩
  ·rw [if_neg hn] at this; exact ⟨fun h2 => absurd h2 hn, fun _ => by simpa using this⟩
 ·intro h i hi
  have := h i (List.mem_range.1 hi)
  by_cases hn : i < n
  ·rw [if_pos hn]; exact decide_eq_true (this.1 hn)
  ·rw [if_neg hn]; simpa using this.2 (by omega)
def headB (l : List UInt8) : Bool := decide (l.length = 256) && decide (l.take 4 = cdxt) && decide (l.drop 252 = cdxe) && decide (1 <= nmAt l 12) && decide (nmAt l 12 <= 48) && takeB (nmAt l 12) 58 ((l.take 248).drop 16)
theorem headB_iff (l : List UInt8) : headB l = true ↔ l.length = 256 /\ l.take 4 = cdxt /\ l.drop 252 = cdxe /\ 1 <= nmAt l 12 /\ nmAt l 12 <= 48 /\ takeB (nmAt l 12) 58 ((l.take 248).drop 16) = true := by
 unfold headB; simp only [Bool.and_eq_true, decide_eq_true_eq, and_assoc]
def seqOf (l : List UInt8) : Nat := nmAt l 4 + 4294967296 * nmAt l 8
def blocksOf (l : List UInt8) : List Int := (List.range (nmAt l 12)).map fun i => ((nmAt l (16 + 4 * i) : Nat) : Int)
theorem blocksOf_len (l : List UInt8) : (blocksOf l).length = nmAt l 12 := by simp [blocksOf]
def hd (s : ByteArray) : Nat × Nat × Bool := if headB s.data.toList = true then (seqOf s.data.toList, nmAt s.data.toList 12, true) else (0, 0, false)
def formB (s : ByteArray) (D : List ByteArray) : Bool := headB s.data.toList && decide (nmAt s.data.toList 12 <= D.length) && (D.take (nmAt s.data.toList 12)).all fun d => d.size == 256
theorem formB_iff (s : ByteArray) (D : List ByteArray) : formB s D = true ↔ headB s.data.toList = true /\ nmAt s.data.toList 12 <= D.length /\ ∀ d ∈ D.take (nmAt s.data.toList 12), d.size = 256 := by
 unfold formB; simp only [Bool.and_eq_true, decide_eq_true_eq, and_assoc, List.all_eq_true, beq_iff_eq]
def sumB (s : ByteArray) (D : List ByteArray) : Bool := nmAt s.data.toList 248 == crcL (s.data.toList.take 248 ++ joinB (D.take (nmAt s.data.toList 12)))
def unp : List ByteArray -> Nat × List (Int × ByteArray) × Nat
 | [] => (0, [], 7)
 | s :: D => if formB s D = true then if sumB s D = true then (seqOf s.data.toList, (blocksOf s.data.toList).zip (D.take (nmAt s.data.toList 12)), 0) else (0, [], 8) else (0, [], 7)
theorem unp_cons (s : ByteArray) (D : List ByteArray) : unp (s :: D) = if formB s D = true then if sumB s D = true then (seqOf s.data.toList, (blocksOf s.data.toList).zip (D.take (nmAt s.data.toList 12)), 0) else (0, [], 8) else (0, [], 7) := rfl
theorem take_bytes (n m : Nat) (q : List UInt8) (_hn : n <= m) (h : takeB n m q = true) (j : Nat) (h1 : 4 * n <= j) (h2 : j < 4 * m) : q.getD j 0 = 0 := by
 have h3 := ((takeB_iff n m q).1 h (j / 4) (by omega)).2 (by omega)
 unfold nmAt unfix at h3
 have e : j = 4 * (j / 4) + 0 \/ j = 4 * (j / 4) + 1 \/ j = 4 * (j / 4) + 2 \/ j = 4 * (j / 4) + 3 := by omega
 have z (b : UInt8) (hb : b.toNat = 0) : b = 0 := UInt8.toNat_inj.1 hb
 rcases e with e | e | e | e <;> rw [e] <;> apply z
 ·rw [Nat.add_zero]; omega
 ·omega
 ·omega
 ·omega
theorem bytes_take (n m : Nat) (q : List UInt8) (h0 : ∀ i, i < n -> nmAt q (4 * i) < 4096) (h : ∀ j, 4 * n <= j -> j < 4 * m -> q.getD j 0 = 0) : takeB n m q = true := by
 rw [takeB_iff]
 intro i hi
 refine ⟨h0 i, fun hn => ?_⟩
 unfold nmAt
 rw [h _ (by omega) (by omega), h _ (by omega) (by omega), h _ (by omega) (by omega), h _ (by omega) (by omega)]; rfl
theorem top_parts (seq : Nat) (l : List (Int × ByteArray)) (hseq : seq < 18446744073709551616) (hl : 1 <= l.length) (hl2 : l.length <= 48) (hw : ∀ x ∈ l, WrOk x) :
  headB (topL seq l) = true /\ nmAt (topL seq l) 12 = l.length /\ seqOf (topL seq l) = seq /\ blocksOf (topL seq l) = l.map (·.1) /\ (topL seq l).take 248 = headL seq l /\ nmAt (topL seq l) 248 = crcL (headL seq l ++ joinB (l.map (·.2))) := by
 have hlen := headL_len seq l hl2
 have hlen2 := topL_len seq l hl2
 have hb : ∀ x ∈ l, 0 <= x.1 /\ x.1 < 4096 := fun x hx => ⟨(hw x hx).1, (hw x hx).2.1⟩
 have htake : (topL seq l).take 248 = headL seq l := by unfold topL; rw [<- hlen, List.take_left]
 have hat (i : Nat) (h : i + 4 <= 248) : nmAt (topL seq l) i = nmAt (headL seq l) i := by unfold topL; exact nmAt_left _ _ _ (by omega)
 have hsum : nmAt (topL seq l) 248 = crcL (headL seq l ++ joinB (l.map (·.2))) := by
  have := nmAt_right (headL seq l) (fixL (crcL (headL seq l ++ joinB (l.map (·.2)))) ++ cdxe) 0
  rw [hlen] at this
  unfold topL
  rw [this]; exact nmAt_fix _ _ (crcL_lt _)
 have e : headL seq l = cdxt ++ (fixL (seq % 4294967296) ++ (fixL (seq / 4294967296) ++ (fixL l.length ++ (numsL l ++ List.replicate (248 - (16 + 4 * l.length)) 0)))) := by
  unfold headL begL; simp only [List.append_assoc]
 have e4 : nmAt (headL seq l) 4 = seq % 4294967296 := by rw [e]; exact (nmAt_right cdxt _ 0).trans (nmAt_fix _ _ (by omega))
 have e8 : nmAt (headL seq l) 8 = seq / 4294967296 := by
  rw [e]; exact (nmAt_right cdxt _ 4).trans ((nmAt_right (fixL _) _ 0).trans (nmAt_fix _ _ (by omega)))
 have e12 : nmAt (headL seq l) 12 = l.length := by
  rw [e]; exact (nmAt_right cdxt _ 8).trans ((nmAt_right (fixL _) _ 4).trans ((nmAt_right (fixL _) _ 0).trans (nmAt_fix _ _ (by omega))))
 have ei (i : Nat) : nmAt (headL seq l) (16 + i) = nmAt (numsL l ++ List.replicate (248 - (16 + 4 * l.length)) 0) i := by
  rw [e, show 16 + i = cdxt.length + ((fixL (seq % 4294967296)).length + ((fixL (seq / 4294967296)).length + ((fixL l.length).length + i))) by simp only [fixL_len, cdxt, List.length_cons, List.length_nil]; omega, nmAt_right, nmAt_right, nmAt_right, nmAt_right]
 have eb (i : Nat) (h : i < l.length) : nmAt (headL seq l) (16 + 4 * i) = l[i].1.toNat := by rw [ei]; exact numsL_at l _ i h hb
 have ez (i : Nat) (h : l.length <= i) : nmAt (headL seq l) (16 + 4 * i) = 0 := by
  rw [ei, show 4 * i = (numsL l).length + 4 * (i - l.length) by rw [numsL_len]; omega, nmAt_right]; exact nmAt_zero _ _
 refine ⟨?_, by rw [hat 12 (by omega), e12], ?_, ?_, htake, hsum⟩
 ·rw [headB_iff, hat 12 (by omega), e12, htake]
  refine ⟨hlen2, ?_, ?_, hl, hl2, ?_⟩
  ·have : (topL seq l).take 4 = ((topL seq l).take 248).take 4 := by rw [List.take_take]; rfl
   rw [this, htake, e]; rfl
  ·have : topL seq l = (headL seq l ++ fixL (crcL (headL seq l ++ joinB (l.map (·.2))))) ++ cdxe := by unfold topL; rw [List.append_assoc]
   rw [this, show 252 = (headL seq l ++ fixL (crcL (headL seq l ++ joinB (l.map (·.2))))).length by rw [List.length_append, hlen, fixL_len], List.drop_left]
  ·rw [takeB_iff]
   intro i hi
   rw [nmAt_drop]
   refine ⟨fun h => ?_, fun h => ez i h⟩
   rw [eb i h]
   have := hb l[i] (List.getElem_mem h)
   omega
 ·unfold seqOf; rw [hat 4 (by omega), hat 8 (by omega), e4, e8]; omega
 ·unfold blocksOf
  rw [hat 12 (by omega), e12]
  apply List.ext_getElem
  ·simp
  ·intro i h1 h2
   have h3 : i < l.length := by simpa using h2
   simp only [List.getElem_map, List.getElem_range]
   rw [hat _ (by omega), eb i h3]
   have := hb l[i] (List.getElem_mem h3)
   omega
theorem unp_pack (seq : Nat) (l : List (Int × ByteArray)) (more : List ByteArray) (hseq : seq < 18446744073709551616) (hl : 1 <= l.length) (hl2 : l.length <= 48) (hw : ∀ x ∈ l, WrOk x) :
  unp (packL seq l ++ more) = (seq, l, 0) := by
 obtain ⟨h1, h2, h3, h4, h5, h6⟩ := top_parts seq l hseq hl hl2 hw
 have ht : (l.map (·.2) ++ more).take l.length = l.map (·.2) := by
  have e : l.length = (l.map (·.2)).length := by simp
  rw [e, List.take_left]
 have e0 : packL seq l ++ more = bs (topL seq l) :: (l.map (·.2) ++ more) := rfl
 rw [e0, unp_cons]
 rw [if_pos, if_pos]
 ·rw [data_bs, h2, h3, h4, ht]
  refine Prod.ext rfl (Prod.ext ?_ rfl)
  show (l.map (·.1)).zip (l.map (·.2)) = l
  rw [List.zip_map']; simp
 ·unfold sumB
  rw [data_bs, h2, h5, h6, ht]; simp
 ·rw [formB_iff, data_bs, h2, ht]
  refine ⟨h1, by simp, fun d hd => ?_⟩
  obtain ⟨x, hx, rfl⟩ := List.mem_map.1 hd
  exact (hw x hx).2.2
end Go.Proofs.YthambopnmhkeeaaGreat.Fr
/- A frame in which one byte is another one, but for the number of writes, is not unpacked: in plain lists. -/
namespace Go.Proofs.YthambopnmhkeeaaGreat.Fr
open Go.RowKit
theorem unp_ok {s : ByteArray} {D : List ByteArray} (h : (unp (s :: D)).2.2 = 0) : formB s D = true /\ sumB s D = true := by
 rw [unp_cons] at h
 by_cases hf : formB s D = true
 ·rw [if_pos hf] at h
  by_cases hs : sumB s D = true
  ·exact ⟨hf, hs⟩
  ·rw [if_neg hs] at h; cases h
 ·rw [if_neg hf] at h; cases h
theorem parts (l : List UInt8) (i : Nat) (h : i < l.length) : l = l.take i ++ l[i] :: l.drop (i + 1) := by
 rw [<- List.drop_eq_getElem_cons h, List.take_append_drop]
theorem getD_at (l : List UInt8) (m : Nat) (h : m < l.length) : l.getD m 0 = l[m] := by simp [List.getD, h]
end Go.Proofs.YthambopnmhkeeaaGreat.Fr
