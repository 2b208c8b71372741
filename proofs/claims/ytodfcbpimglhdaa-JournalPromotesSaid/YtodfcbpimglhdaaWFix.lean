/- Numbers of four bytes: what Fixed and ToFixed answer, and the document's own: the same. -/
import Derived.Test.YtodfcbpimglhdaaWCrc
import Derived.Test.YtodfcbpimglhdaaWVarM
import Derived.Laws.BytesArg
import Derived.Deep.QuietTactic
import Derived.BigQuiet
namespace Go.Proofs.Ytodfcbpimglhdaa.Fr
open Go.RowKit

/-- Bytes as a text. -/
def bs (l : List UInt8) : ByteArray := ⟨l.toArray⟩

theorem cell_at {w : World} {b : Nat} {cs : Array Value} {t : TypeId} {s : Nat × Nat} {k : Nat} (h : w.heap[b]? = some (.cells cs t s)) : w.cell? ⟨b, k, none⟩ = cs[k]? := by
  simp [World.cell?, h]

theorem conv4 (w : World) (a b c d : Int) : (convert 78 9 (.slice (some ⟨w.heap.size, 0, none⟩) 4 4)).run Try.prog (w.alloc (.cells #[.int .u8 a, .int .u8 b, .int .u8 c, .int .u8 d] 5)) = .ok (.string (strOfNums [a, b, c, d])) (w.alloc (.cells #[.int .u8 a, .int .u8 b, .int .u8 c, .int .u8 d] 5)) := by
  refine run_convert_bytes_arg _ 78 5 Try.underlying78 Try.underlying5 w.heap.size 0 4 4 [a, b, c, d] rfl ?_ 9 Try.underlying9
  intro i hi
  rw [cell_at (heap_alloc_new ..)]
  match i, hi with
  | 0, _ => rfl
  | 1, _ => rfl
  | 2, _ => rfl
  | 3, _ => rfl
theorem fix_str (v : Nat) (hv : v < 4294967296) : strOfNums [(v : Int) % 256, (v : Int) / 256 % 256, (v : Int) / 65536 % 256, (v : Int) / 16777216] = bs (fixL v) := by
  have e (x : Nat) : UInt8.ofNat ((x : Int) % 256).toNat = UInt8.ofNat x := by
    apply UInt8.toNat_inj.1
    rw [UInt8.toNat_ofNat', UInt8.toNat_ofNat']
    omega
  have e1 := e v
  have e2 := e (v / 256)
  have e3 := e (v / 65536)
  have e4 := e (v / 16777216)
  have e5 : ((v / 16777216 : Nat) : Int) % 256 = (v : Int) / 16777216 := by omega
  rw [e5] at e4
  unfold strOfNums bs fixL
  simp only [List.map_cons, List.map_nil]
  rw [e1, e4]
  rw [show (v : Int) / 256 = ((v / 256 : Nat) : Int) by omega, e2, show (v : Int) / 65536 = ((v / 65536 : Nat) : Int) by omega, e3]

set_option maxRecDepth 100000 in
set_option maxHeartbeats 1000000 in
theorem fixed_any (v : Nat) (w : World) (hv : v < 4294967296) :
    Calls Try.prog 83 #[.int .u32 (v : Int)] w fun e w' => e = .returned (.string (bs (fixL v))) ∧ Below w.heap.size w w' := by
  have hconv := conv4 w
  have HF := Lib.hid (fix_str v hv)
  go_enter Try.func83, Try.ntmps83
  go_wp2
  go_ret
  exact ⟨by rw [← HF.out]; rfl, (Below.refl _ _).alloc (Nat.le_refl _) _⟩
set_option maxRecDepth 100000 in
set_option maxHeartbeats 1000000 in
theorem rfixed_any (v : Nat) (w : World) (hv : v < 4294967296) :
    Calls Try.prog 84 #[.int .u32 (v : Int)] w fun e w' => e = .returned (.string (bs (fixL v))) ∧ Below w.heap.size w w' := by
  have hconv := conv4 w
  have HF := Lib.hid (fix_str v hv)
  go_enter Try.func84, Try.ntmps84
  go_wp2
  go_ret
  exact ⟨by rw [← HF.out]; rfl, (Below.refl _ _).alloc (Nat.le_refl _) _⟩
theorem below_drewN {B : Nat} {a w : World} (h : Below B a w) (n : Nat) : Below B a (w.drewN n) := ⟨h.os, h.tape, h.output, h.size, h.block⟩
theorem sum4 (a b c d : UInt8) : (((a.toNat : Int) + 256 * ((b.toNat : Int) % 4294967296) + 65536 * ((c.toNat : Int) % 4294967296)) % 4294967296 + 16777216 * ((d.toNat : Int) % 4294967296) % 4294967296) % 4294967296 = ((unfix a b c d : Nat) : Int) := by
  have ha := byte_lt a; have hb := byte_lt b; have hc := byte_lt c; have hd := byte_lt d
  unfold unfix
  omega
theorem tup3 {x y : Int} (k : IntKind) (s : Value) (b : Value) (h : x = y) : Ending.returned (.tuple #[.int k x, s, b]) = .returned (.tuple #[.int k y, s, b]) := by rw [h]
theorem join_or (i x y : Nat) (hx : x % 2 ^ i = 0) (hy : y < 2 ^ i) : y ||| x = y + x := by rw [Nat.or_comm, nat_join i x y hx hy, Nat.add_comm]
theorem or4 (a b c d : UInt8) : bits .or .u32 (bits .or .u32 (bits .or .u32 ((a.toNat : Int) % 4294967296) ((b.toNat : Int) % 4294967296 * 256 % 4294967296)) ((c.toNat : Int) % 4294967296 * 65536 % 4294967296)) ((d.toNat : Int) % 4294967296 * 16777216 % 4294967296) = ((unfix a b c d : Nat) : Int) := by
  have ha := byte_lt a; have hb := byte_lt b; have hc := byte_lt c; have hd := byte_lt d
  rw [show (a.toNat : Int) % 4294967296 = ((a.toNat : Nat) : Int) by omega, show (b.toNat : Int) % 4294967296 * 256 % 4294967296 = ((256 * b.toNat : Nat) : Int) by omega,
    show (c.toNat : Int) % 4294967296 * 65536 % 4294967296 = ((65536 * c.toNat : Nat) : Int) by omega, show (d.toNat : Int) % 4294967296 * 16777216 % 4294967296 = ((16777216 * d.toNat : Nat) : Int) by omega]
  rw [u32_or_nat _ _ (by omega) (by omega), join_or 8 _ _ (by omega) (by omega), u32_or_nat _ _ (by omega) (by omega), join_or 16 _ _ (by omega) (by omega), u32_or_nat _ _ (by omega) (by omega), join_or 24 _ _ (by omega) (by omega)]
  rfl

set_option maxRecDepth 100000 in
set_option maxHeartbeats 1000000 in
theorem toFixed_some (s : ByteArray) (w : World) (h4 : 4 ≤ s.size) (hs : s.size ≤ maxLen) :
    Calls Try.prog 93 #[.string s] w fun e w' => e = .returned (.tuple #[.int .u32 ((unfix s[0] s[1] s[2] s[3] : Nat) : Int), .string (s.extract 4 s.size), .bool true]) ∧ Below w.heap.size w w' := by
  unfold maxLen at hs
  have i0 : 0 < s.size := by omega
  have i1 : 1 < s.size := by omega
  have i2 : 2 < s.size := by omega
  have i3 : 3 < s.size := by omega
  have j1 : (1 : Int) < (s.size : Int) := by omega
  have j2 : (2 : Int) < (s.size : Int) := by omega
  have j3 : (3 : Int) < (s.size : Int) := by omega
  have j4 : (4 : Int) ≤ (s.size : Int) := by omega
  have HV := Lib.hid (or4 s[0] s[1] s[2] s[3])
  go_enter Try.func93, Try.ntmps93
  go_wp2
  go_quiet (fail)
  rw [HV.out]
  go_wp2
  go_quiet (fail)
  go_wp2
  go_ret3
  exact ⟨rfl, below_drewN (below_drewN (Below.refl _ _) _) _⟩
set_option maxRecDepth 100000 in
set_option maxHeartbeats 1000000 in
theorem rtoFixed_some (s : ByteArray) (w : World) (h4 : 4 ≤ s.size) (hs : s.size ≤ maxLen) :
    Calls Try.prog 78 #[.string s] w fun e w' => e = .returned (.tuple #[.int .u32 ((unfix s[0] s[1] s[2] s[3] : Nat) : Int), .string (s.extract 4 s.size), .bool true]) ∧ Below w.heap.size w w' := by
  unfold maxLen at hs
  have i0 : 0 < s.size := by omega
  have i1 : 1 < s.size := by omega
  have i2 : 2 < s.size := by omega
  have i3 : 3 < s.size := by omega
  have j1 : (1 : Int) < (s.size : Int) := by omega
  have j2 : (2 : Int) < (s.size : Int) := by omega
  have j3 : (3 : Int) < (s.size : Int) := by omega
  have j4 : (4 : Int) ≤ (s.size : Int) := by omega
  go_enter Try.func78, Try.ntmps78
  go_wp2
  go_quiet (fail)
  go_wp2
  go_ret3
  exact ⟨tup3 _ _ _ (sum4 s[0] s[1] s[2] s[3]), below_drewN (Below.refl _ _) _⟩
set_option maxRecDepth 100000 in
set_option maxHeartbeats 1000000 in
theorem toFixed_none (s : ByteArray) (w : World) (h4 : s.size < 4) :
    Calls Try.prog 93 #[.string s] w fun e w' => e = .returned (.tuple #[.int .u32 0, .string ⟨#[]⟩, .bool false]) ∧ Below w.heap.size w w' := by
  go_enter Try.func93, Try.ntmps93
  go_wp2
  go_ret3
  exact ⟨rfl, (Below.refl _ _)⟩
set_option maxRecDepth 100000 in
set_option maxHeartbeats 1000000 in
theorem rtoFixed_none (s : ByteArray) (w : World) (h4 : s.size < 4) :
    Calls Try.prog 78 #[.string s] w fun e w' => e = .returned (.tuple #[.int .u32 0, .string ⟨#[]⟩, .bool false]) ∧ Below w.heap.size w w' := by
  go_enter Try.func78, Try.ntmps78
  go_wp2
  go_ret3
  exact ⟨rfl, (Below.refl _ _)⟩
end Go.Proofs.Ytodfcbpimglhdaa.Fr
