/- Numbers written in as few bytes as there can be: what Var answers, and the document's own: the same. -/
import Derived.Test.YtojneafmdlohoaaWSize
import Derived.Lib.AppendStr
namespace Go.Proofs.Ytojneafmdlohoaa
open Go.RowKit

/-- Bytes as cells, and a row of bytes that the call owns. -/
def cellsB (l : List UInt8) : List Value := l.map fun b => Value.int .u8 b.toNat
theorem cellsB_append (l m : List UInt8) : cellsB (l ++ m) = cellsB l ++ cellsB m := List.map_append ..
theorem cellsB_length (l : List UInt8) : (cellsB l).length = l.length := by simp [cellsB]
theorem _root_.Go.Proofs.Try.infoB : (Try.prog.info? 5).map (fun i => (i.zero, i.size, i.bytes)) = some (some (.int .u8 0), 1, 1) := by kernel_rfl
def BRow (B : Nat) (w : World) (v : Value) (l : List UInt8) : Prop := w.ownsRow B 5 1 v l.length (cellsB l)
theorem BRow.nil (B : Nat) (w : World) : BRow B w (.slice none 0 0) [] := World.ownsRow_nil ..
theorem strOf_map (l : List UInt8) : strOfNums (l.map fun b => (b.toNat : Int)) = bs l := by
  unfold strOfNums bs
  rw [List.map_map]
  congr 2
  conv => rhs; rw [← List.map_id l]
  apply List.map_congr_left
  intro b _
  simp
theorem BRow.text {B : Nat} {w : World} {v : Value} {l : List UInt8} (h : BRow B w v l) : (convert 41 9 v).run Try.prog w = .ok (.string (bs l)) w := by
  rcases h.2 with ⟨rfl, h0⟩ | ⟨g, cap, cur, rfl, _⟩
  · obtain rfl : l = [] := List.eq_nil_of_length_eq_zero h0
    exact run_convert_bytes_nil w 41 5 Try.underlying41 Try.underlying5 0 0 9 Try.underlying9
  · rw [← strOf_map]
    refine run_convert_bytes_arg w 41 5 Try.underlying41 Try.underlying5 g 0 l.length cap _ (by simp) ?_ 9 Try.underlying9
    intro i hi
    rw [Nat.zero_add, World.ownsRow.cellAt h i (by omega)]
    simp [cellsB, List.getD, hi]
theorem varL_ten (v : Nat) (h : v < 18446744073709551616) : (varL v).length ≤ 10 := by
  have e := rdV_varL v [] h
  have h1 := (rdV_some e).2.2.2.2.1
  rw [vsz_varL v [] 0 (by omega) h (fun hh => by omega)] at h1
  omega
theorem cell_one {w : World} {x : Value} (j : Nat) (u : Value) (h : [x][j]? = some u) : (w.alloc (.cells #[x] 5)).cell? ((⟨w.heap.size, 0, none⟩ : Addr).add j) = some u := by
  match j, h with
  | 0, h => simp at h; subst h; simp [Addr.add]
theorem one_byte (x : Nat) (h : x < 256) : [Value.int .u8 (x : Int)] = cellsB [UInt8.ofNat x] := by
  unfold cellsB; simp only [List.map_cons, List.map_nil]; rw [toNat_of x h]

theorem BRow.snoc {B : Nat} {w : World} {v : Value} {l : List UInt8} {x : Int} (b : Nat) (hb : b < 256) (e : x = (b : Int)) {n : Nat} (h : w.ownsRow B 5 1 v n (cellsB l ++ [Value.int .u8 x])) (hn : n = l.length + 1) : BRow B w v (l ++ [UInt8.ofNat b]) := by
  unfold BRow
  subst hn
  rw [List.length_append, cellsB_append, ← one_byte b hb, ← e]
  exact h
theorem or_128 : ∀ x : Fin 256, x.val ||| 128 = x.val % 128 + 128 := by decide +kernel
theorem or128 (y : Nat) : bits .or .u8 ((y : Int) % 256) 128 = ((y % 128 + 128 : Nat) : Int) := by
  rw [show (y : Int) % 256 = ((y % 256 : Nat) : Int) by omega, show (128 : Int) = ((128 : Nat) : Int) from rfl, u8_or_nat _ _ (by omega) (by omega), or_128 ⟨y % 256, by omega⟩]
  congr 1
  show y % 256 % 128 + 128 = _
  omega
theorem below_push {B : Nat} {w wr wb : World} {o : Obj} {v : Value} {n : Nat} {e : TypeId} {xs : List Value} (h : Below B w wr) (hB : B ≤ wr.heap.size) (ho : wr.ownsRow B e 1 v n xs) (hg : (wr.alloc o).grownBy wb v.ownBlock) : Below B w wb :=
  (h.alloc hB _).grown hg (by simp; omega) (fun g hg => (ho.lt g hg).1)

set_option maxRecDepth 100000 in
set_option maxHeartbeats 1000000 in
theorem rvar_any (v : Nat) (w : World) (hv : v < 18446744073709551616) :
    Calls Try.prog 21 #[.int .u64 (v : Int)] w fun e w' => e = .returned (.string (bs (varL v))) ∧ Below w.heap.size w w' := by
  obtain ⟨i0, hi, hz0, hz1, hz2⟩ := info_parts Try.infoB
  have HZ2 := Lib.hid hz2; clear hz2
  have HT := Lib.hid (varL_ten v hv)
  go_enter Try.func21, Try.ntmps21
  go_wp2
  go_loopw [3, 0] (fun b x wr => ∃ (y : Nat) (l : List UInt8), y < 18446744073709551616 ∧ x = .int .u64 (y : Int) ∧ Hid (varL v = l ++ varL y) ∧ Hid (BRow w.heap.size wr b l) ∧ Hid (Below w.heap.size w wr)) (fun _ x _ => (intOf x).toNat)
  case atStart => exact ⟨v, [], hv, rfl, rfl, BRow.nil _ _, Below.refl _ _⟩
  case round =>
    obtain ⟨y, l, hy, rfl, HV, HO, HB⟩ := hrel
    have hl10 : l.length + (varL y).length ≤ 10 := by have := HT.out; rw [HV.out, List.length_append] at this; exact this
    have hl1 := varL_len y
    have hbz := HB.out.size
    by_cases h128 : 128 ≤ y
    · have HN := Lib.hid (varL_hi y h128)
      go_wp2_with (at_builtin; refine wpList_append_own _ rfl _ _ 41 rfl w.heap.size 5 i0 _ 1 1 Try.underlying41 hi hz0 hz1 HZ2.out rfl (by decide) _ _ _ rfl (HO.out.alloc _) ⟨wr.heap.size, 0, none⟩ 1 1 [_] rfl rfl cell_one ?c2 ?c3 ?c4 ?c5 ?_)
      case c2 => intro u hu; simp at hu; subst hu; rfl
      case c3 => unfold maxLen; omega
      case c4 => omega
      case c5 => simp; omega
      intro v' wb hown' hgrow _
      have HO2 := Lib.hid (BRow.snoc (y % 128 + 128) (by omega) (by omega) hown' (by simp))
      have HB2 := Lib.hid (below_push HB.out hbz HO.out hgrow)
      have HV2 : Hid (varL v = l ++ [UInt8.ofNat (y % 128 + 128)] ++ varL (y / 128)) := by show _ = _; rw [HV.out, HN.out]; simp
      clear hown' hgrow
      go_wp2
      go_roundw
      case rel => exact ⟨y / 128, _, by omega, by go_num, HV2, HO2, HB2⟩
      case measure => simp [intOf]; omega
    · have HN := Lib.hid (varL_lo y (by omega))
      go_wp2_with (at_builtin; refine wpList_append_own _ rfl _ _ 41 rfl w.heap.size 5 i0 _ 1 1 Try.underlying41 hi hz0 hz1 HZ2.out rfl (by decide) _ _ _ rfl (HO.out.alloc _) ⟨wr.heap.size, 0, none⟩ 1 1 [_] rfl rfl cell_one ?d2 ?d3 ?d4 ?d5 ?_)
      case d2 => intro u hu; simp at hu; subst hu; rfl
      case d3 => unfold maxLen; omega
      case d4 => omega
      case d5 => simp; omega
      intro v' wb hown' hgrow _
      have HO2 := Lib.hid (BRow.snoc y (by omega) rfl hown' (by simp))
      have HB2 := Lib.hid (below_push HB.out hbz HO.out hgrow)
      have HV2 : Hid (varL v = l ++ [UInt8.ofNat y]) := by show _ = _; rw [HV.out, HN.out]
      clear hown' hgrow
      have hconv := HO2.out.text
      rw [← HV2.out] at hconv
      go_wp2
      go_ret
      exact ⟨rfl, HB2.out⟩

/-- The bytes of numbers, one behind the other. -/
def varsL (L : List Nat) : List UInt8 := L.flatMap varL
theorem varsL_take (L : List Nat) (k : Nat) (h : k < L.length) : varsL (L.take (k + 1)) = varsL (L.take k) ++ varL L[k] := by
  rw [List.take_succ_eq_append_getElem h]; unfold varsL; rw [List.flatMap_append]; simp only [List.flatMap_cons, List.flatMap_nil, List.append_nil]
theorem varsL_len (L : List Nat) (h : ∀ x ∈ L, x < 18446744073709551616) : (varsL L).length ≤ 10 * L.length := by
  induction L with
  | nil => simp [varsL]
  | cons x L ih =>
    have h1 := varL_ten x (h x (List.mem_cons_self ..))
    have h2 := ih (fun y hy => h y (List.mem_cons_of_mem _ hy))
    unfold varsL at h2 ⊢
    simp only [List.flatMap_cons, List.length_append, List.length_cons]
    omega
/-- A slice of numbers: nil, or so many cells. -/
def Nums (w : World) (v : Value) (L : List Nat) : Prop := (v = .slice none 0 0 ∧ L = []) ∨ ∃ b off c, v = .slice (some ⟨b, off, none⟩) L.length c ∧ b < w.heap.size ∧ ∀ j (h : j < L.length), w.cell? ⟨b, off + j, none⟩ = some (.int .u64 (L[j] : Int))

set_option maxRecDepth 100000 in
set_option maxHeartbeats 1000000 in
theorem var_nil (w : World) (ao : Option Addr) (c : Nat) :
    Calls Try.prog 20 #[.slice ao 0 c] w fun e w' => e = .returned (.string (bs [])) ∧ Below w.heap.size w w' := by
  have hconv := (BRow.nil w.heap.size w).text
  go_enter Try.func20, Try.ntmps20
  go_wp2
  go_loop [3, 8] (fun s i => i = .int .i64 0 ∧ s = .slice none 0 0) (fun _ _ => 0)
  case atStart => exact ⟨rfl, rfl⟩
  case round =>
    obtain ⟨rfl, rfl⟩ := hrel
    go_wp2
    go_ret
    exact ⟨rfl, Below.refl _ _⟩

set_option maxRecDepth 100000 in
set_option maxHeartbeats 2000000 in
theorem var_some (L : List Nat) (b off c : Nat) (w : World) (hn : L.length ≤ 1000000) (hL : ∀ x ∈ L, x < 18446744073709551616) (hbw : b < w.heap.size)
    (hc : ∀ j (h : j < L.length), w.cell? ⟨b, off + j, none⟩ = some (.int .u64 (L[j] : Int))) :
    Calls Try.prog 20 #[.slice (some ⟨b, off, none⟩) L.length c] w fun e w' => e = .returned (.string (bs (varsL L))) ∧ Below w.heap.size w w' := by
  obtain ⟨i0, hi, hz0, hz1, hz2⟩ := info_parts Try.infoB
  have HZ2 := Lib.hid hz2; clear hz2
  have HC := Lib.hid hc; clear hc
  have HL := Lib.hid hL; clear hL
  go_enter Try.func20, Try.ntmps20
  go_wp2
  go_loopw [3, 8] (fun s i wr => ∃ k : Nat, k ≤ L.length ∧ i = .int .i64 k ∧ Hid (BRow w.heap.size wr s (varsL (L.take k))) ∧ Hid (Below w.heap.size w wr)) (fun _ i _ => L.length - (intOf i).toNat)
  case atStart => exact ⟨0, Nat.zero_le _, rfl, BRow.nil _ _, Below.refl _ _⟩
  case round =>
    obtain ⟨k, hk, rfl, HO, HB⟩ := hrel
    have hbz := HB.out.size
    by_cases hlt : k < L.length
    · have hcell : wr.cell? ⟨b, off + k, none⟩ = some (.int .u64 (L[k] : Int)) := by rw [HB.out.cell (p := ⟨b, off + k, none⟩) hbw]; exact HC.out k hlt
      have hxl := HL.out L[k] (List.getElem_mem hlt)
      have hal : (varsL (L.take k)).length ≤ 10000000 := by
        have := varsL_len (L.take k) (fun x hx => HL.out x (List.mem_of_mem_take hx))
        rw [List.length_take] at this; omega
      have HJ := Lib.hid (varsL_take L k hlt)
      obtain ⟨x, hx⟩ : ∃ x, L[k] = x := ⟨_, rfl⟩
      rw [hx] at hcell hxl HJ
      clear hx
      obtain ⟨acc, ha⟩ : ∃ acc, varsL (L.take k) = acc := ⟨_, rfl⟩
      rw [ha] at hal HO HJ
      clear ha
      have HT := Lib.hid (varL_ten x hxl)
      go_wp2
      go_loopw [3, 5] (fun s v wq => ∃ (y : Nat) (l : List UInt8), y < 18446744073709551616 ∧ v = .int .u64 (y : Int) ∧ Hid (varL x = l ++ varL y) ∧ Hid (BRow w.heap.size wq s (acc ++ l)) ∧ Hid (Below w.heap.size w wq)) (fun _ v _ => (intOf v).toNat)
      case atStart => exact ⟨x, [], hxl, rfl, rfl, by rw [List.append_nil]; exact HO, HB⟩
      case round =>
        clear HO HB hcell hbz
        obtain ⟨y, l, hy, rfl, HV, HO, HB⟩ := hrel
        have hl10 : l.length + (varL y).length ≤ 10 := by have := HT.out; rw [HV.out, List.length_append] at this; exact this
        have hl1 := varL_len y
        have hbz := HB.out.size
        have hall : (acc ++ l).length ≤ 10000010 := by rw [List.length_append]; omega
        by_cases h128 : 128 ≤ y
        · have HN := Lib.hid (varL_hi y h128)
          go_wp2_with (at_builtin; refine wpList_append_own _ rfl _ _ 41 rfl w.heap.size 5 i0 _ 1 1 Try.underlying41 hi hz0 hz1 HZ2.out rfl (by decide) _ _ _ rfl (HO.out.alloc _) ⟨wr.heap.size, 0, none⟩ 1 1 [_] rfl rfl cell_one ?c2 ?c3 ?c4 ?c5 ?_)
          case c2 => intro u hu; simp at hu; subst hu; rfl
          case c3 => unfold maxLen; omega
          case c4 => omega
          case c5 => simp; omega
          intro v' wb hown' hgrow _
          have HO2 := Lib.hid (BRow.snoc (y % 128 + 128) (by omega) (or128 y) hown' (by simp))
          have HB2 := Lib.hid (below_push HB.out hbz HO.out hgrow)
          have HV2 : Hid (varL x = l ++ [UInt8.ofNat (y % 128 + 128)] ++ varL (y / 128)) := by show _ = _; rw [HV.out, HN.out]; simp
          clear hown' hgrow
          go_wp2
          go_roundw
          case rel => exact ⟨y / 128, _, by omega, by go_num, HV2, by rw [← List.append_assoc]; exact HO2, HB2⟩
          case measure => simp [intOf]; omega
        · have HN := Lib.hid (varL_lo y (by omega))
          go_wp2_with (at_builtin; refine wpList_append_own _ rfl _ _ 41 rfl w.heap.size 5 i0 _ 1 1 Try.underlying41 hi hz0 hz1 HZ2.out rfl (by decide) _ _ _ rfl (HO.out.alloc _) ⟨wr.heap.size, 0, none⟩ 1 1 [_] rfl rfl cell_one ?d2 ?d3 ?d4 ?d5 ?_)
          case d2 => intro u hu; simp at hu; subst hu; rfl
          case d3 => unfold maxLen; omega
          case d4 => omega
          case d5 => simp; omega
          intro v' wb hown' hgrow _
          have HO2 := Lib.hid (BRow.snoc y (by omega) rfl hown' (by simp))
          have HB2 := Lib.hid (below_push HB.out hbz HO.out hgrow)
          have HV2 : Hid (varL x = l ++ [UInt8.ofNat y]) := by show _ = _; rw [HV.out, HN.out]
          clear hown' hgrow
          go_wp2
          go_roundw
          case rel => exact ⟨k + 1, by omega, by go_num, by rw [HJ.out, HV2.out, ← List.append_assoc]; exact HO2, HB2⟩
          case measure => simp [intOf]; omega
    · have hconv := HO.out.text
      rw [List.take_of_length_le (by omega)] at hconv
      go_wp2
      go_ret
      exact ⟨rfl, HB.out⟩

theorem var_any (L : List Nat) (v : Value) (w : World) (hn : L.length ≤ 1000000) (hL : ∀ x ∈ L, x < 18446744073709551616) (h : Nums w v L) :
    Calls Try.prog 20 #[v] w fun e w' => e = .returned (.string (bs (varsL L))) ∧ Below w.heap.size w w' := by
  rcases h with ⟨rfl, rfl⟩ | ⟨b, off, c, rfl, hb, hc⟩
  · exact var_nil w none 0
  · exact var_some L b off c w hn hL hb hc
end Go.Proofs.Ytojneafmdlohoaa
