/- Texts written with their lengths: what Text answers, and the document's own: the same. -/
import Derived.Test.YtojneafmdlohoaaWVar
namespace Go.Proofs.Ytojneafmdlohoaa
open Go.RowKit

/-- The bytes of texts with their lengths, one behind the other. -/
def textsL (L : List ByteArray) : List UInt8 := L.flatMap fun s => textL s.data.toList
theorem textsL_take (L : List ByteArray) (k : Nat) (h : k < L.length) : textsL (L.take (k + 1)) = textsL (L.take k) ++ textL L[k].data.toList := by
  rw [List.take_succ_eq_append_getElem h]; unfold textsL; rw [List.flatMap_append]; simp only [List.flatMap_cons, List.flatMap_nil, List.append_nil]
theorem textL_len (s : ByteArray) (h : s.size ≤ 1000000) : (textL s.data.toList).length ≤ 1000010 := by
  have h2 := varL_ten s.size (by omega)
  unfold textL
  have e : s.data.toList.length = s.size := by simp
  rw [List.length_append, e]; omega
theorem textsL_len (L : List ByteArray) (h : ∀ x ∈ L, x.size ≤ 1000000) : (textsL L).length ≤ 1000010 * L.length := by
  induction L with
  | nil => simp [textsL]
  | cons x L ih =>
    have h1 := textL_len x (h x (List.mem_cons_self ..))
    have h2 := ih (fun y hy => h y (List.mem_cons_of_mem _ hy))
    unfold textsL at h2 ⊢
    simp only [List.flatMap_cons, List.length_append, List.length_cons]
    omega
theorem strCells_bs (l : List UInt8) : Lib.strCells (bs l) = cellsB l := rfl
theorem bs_size (l : List UInt8) : (bs l).size = l.length := by simp [bs, ByteArray.size]
theorem bs_self (s : ByteArray) : bs s.data.toList = s := by unfold bs; simp
theorem own_below {w w' : World} {base : Nat} {e : TypeId} {size n : Nat} {v : Value} {xs : List Value} (h : w.ownsRow base e size v n xs) (hb : Below w.heap.size w w') : w'.ownsRow base e size v n xs := by
  refine ⟨h.1, ?_⟩
  rcases h.2 with h' | ⟨g, cap, cur, h1, h2, h3, h4⟩
  · exact .inl h'
  · exact .inr ⟨g, cap, cur, h1, h2, by rw [hb.block g (Array.getElem?_eq_some_iff.1 h3).1]; exact h3, h4⟩
theorem BRow.add {B : Nat} {w : World} {v : Value} {l m : List UInt8} {n : Nat} (h : w.ownsRow B 5 1 v n (cellsB l ++ cellsB m)) (hn : n = l.length + m.length) : BRow B w v (l ++ m) := by
  subst hn; unfold BRow; rw [List.length_append, cellsB_append]; exact h

/-- A number alone, as Var is handed it. -/
theorem var_one (x : Nat) (hx : x < 18446744073709551616) (w : World) :
    Calls Try.prog 20 #[.slice (some ⟨w.heap.size, 0, none⟩) 1 1] (w.alloc (.cells #[.int .u64 (x : Int)] 27)) fun e w' => e = .returned (.string (bs (varL x))) ∧ Below w.heap.size w w' := by
  have h := var_some [x] w.heap.size 0 1 (w.alloc (.cells #[.int .u64 (x : Int)] 27)) (by simp) (fun y hy => by simp at hy; omega) (by simp) (fun j hj => by
    obtain rfl : j = 0 := by simp at hj; omega
    rw [cell_at (heap_alloc_new ..)]; rfl)
  refine h.mono fun e w' ⟨he, hb⟩ => ⟨?_, ((Below.refl _ _).alloc (Nat.le_refl _) _).trans (hb.mono (by simp))⟩
  rw [he]
  simp [varsL]

set_option maxRecDepth 100000 in
set_option maxHeartbeats 1000000 in
theorem text_nil (w : World) (ao : Option Addr) (c : Nat) :
    Calls Try.prog 24 #[.slice ao 0 c] w fun e w' => e = .returned (.string (bs [])) ∧ Below w.heap.size w w' := by
  have hconv := (BRow.nil w.heap.size w).text
  go_enter Try.func24, Try.ntmps24
  go_wp2
  go_loop [3, 8] (fun s i => i = .int .i64 0 ∧ s = .slice none 0 0) (fun _ _ => 0)
  case atStart => exact ⟨rfl, rfl⟩
  case round =>
    obtain ⟨rfl, rfl⟩ := hrel
    go_wp2
    go_ret
    exact ⟨rfl, Below.refl _ _⟩

set_option maxRecDepth 100000 in
set_option maxHeartbeats 2000000 in
theorem text_some (L : List ByteArray) (b off c : Nat) (w : World) (hn : L.length ≤ 100000) (hL : ∀ x ∈ L, x.size ≤ 1000000) (hbw : b < w.heap.size)
    (hc : ∀ j (h : j < L.length), w.cell? ⟨b, off + j, none⟩ = some (.string L[j])) :
    Calls Try.prog 24 #[.slice (some ⟨b, off, none⟩) L.length c] w fun e w' => e = .returned (.string (bs (textsL L))) ∧ Below w.heap.size w w' := by
  obtain ⟨i0, hi, hz0, hz1, hz2⟩ := info_parts Try.infoB
  have HZ2 := Lib.hid hz2; clear hz2
  have HC := Lib.hid hc; clear hc
  have HL := Lib.hid hL; clear hL
  go_enter Try.func24, Try.ntmps24
  go_wp2
  go_loopw [3, 8] (fun s i wr => ∃ k : Nat, k ≤ L.length ∧ i = .int .i64 k ∧ Hid (BRow w.heap.size wr s (textsL (L.take k))) ∧ Hid (Below w.heap.size w wr)) (fun _ i _ => L.length - (intOf i).toNat)
  case atStart => exact ⟨0, Nat.zero_le _, rfl, BRow.nil _ _, Below.refl _ _⟩
  case round =>
    obtain ⟨k, hk, rfl, HO, HB⟩ := hrel
    have hbz := HB.out.size
    by_cases hlt : k < L.length
    · have hcell : wr.cell? ⟨b, off + k, none⟩ = some (.string L[k]) := by rw [HB.out.cell (p := ⟨b, off + k, none⟩) hbw]; exact HC.out k hlt
      have hxl := HL.out L[k] (List.getElem_mem hlt)
      have hal : (textsL (L.take k)).length ≤ 100001000000 := by
        have := textsL_len (L.take k) (fun x hx => HL.out x (List.mem_of_mem_take hx))
        rw [List.length_take] at this; omega
      have HJ := Lib.hid (textsL_take L k hlt)
      obtain ⟨x, hx⟩ : ∃ x, L[k] = x := ⟨_, rfl⟩
      rw [hx] at hcell hxl HJ
      clear hx
      obtain ⟨acc, ha⟩ : ∃ acc, textsL (L.take k) = acc := ⟨_, rfl⟩
      rw [ha] at hal HO HJ
      clear ha
      have hT := varL_ten x.size (by omega)
      have HE : Hid (textL x.data.toList = varL x.size ++ x.data.toList) := by show _ = _; unfold textL; simp
      have C := Lib.hid (var_one x.size (by omega) wr)
      go_wp2_with fail
      refine C.out.mono ?_
      rintro e w1 ⟨rfl, hb1⟩
      have HO1 := Lib.hid (own_below HO.out hb1)
      have HB1 : Hid (Below w.heap.size w w1) := HB.out.trans (hb1.mono hbz)
      have hz1' : wr.heap.size ≤ w1.heap.size := hb1.size
      clear hb1 C HO HB
      go_wp2_with (at_builtin; refine Lib.wpList_append_own_string _ rfl (.tmp 12) (.tmp 17) 41 9 rfl w.heap.size 5 i0 Try.underlying41 Try.underlying9 hi hz0 hz1 HZ2.out _ _ _ rfl HO1.out (bs (varL x.size)) rfl ?c3 ?c4 ?c5 ?_)
      case c3 => rw [bs_size]; unfold maxLen; omega
      case c4 => rw [bs_size]; omega
      case c5 => omega
      intro v2 w2 hown2 hgrow2 _
      rw [strCells_bs] at hown2
      have HO2 := Lib.hid (BRow.add hown2 (by rw [bs_size]))
      have HB2 : Hid (Below w.heap.size w w2) := HB1.out.grown hgrow2 (by omega) (fun g hg => (HO1.out.lt g hg).1)
      clear hown2 hgrow2 HO1 HB1
      have hz2' := HB2.out.size
      have hal2 : (acc ++ varL x.size).length ≤ 100001000010 := by rw [List.length_append]; omega
      go_wp2_with (at_builtin; refine Lib.wpList_append_own_string _ rfl (.tmp 19) (.tmp 20) 41 9 rfl w.heap.size 5 i0 Try.underlying41 Try.underlying9 hi hz0 hz1 HZ2.out _ _ _ rfl HO2.out x rfl ?d3 ?d4 ?d5 ?_)
      case d3 => unfold maxLen; omega
      case d4 => omega
      case d5 => omega
      intro v3 w3 hown3 hgrow3 _
      rw [show Lib.strCells x = cellsB x.data.toList from rfl] at hown3
      have HO3 := Lib.hid (BRow.add hown3 (by simp))
      have HB3 : Hid (Below w.heap.size w w3) := HB2.out.grown hgrow3 (by omega) (fun g hg => (HO2.out.lt g hg).1)
      clear hown3 hgrow3 HO2 HB2
      go_wp2
      go_roundw
      case rel => exact ⟨k + 1, by omega, by go_num, by rw [HJ.out, HE.out, ← List.append_assoc]; exact HO3, HB3⟩
      case measure => simp [intOf]; omega
    · have hconv := HO.out.text
      rw [List.take_of_length_le (by omega)] at hconv
      go_wp2
      go_ret
      exact ⟨rfl, HB.out⟩

theorem text_any (L : List ByteArray) (v : Value) (w : World) (hn : L.length ≤ 100000) (hL : ∀ x ∈ L, x.size ≤ 1000000) (h : Strs w v L) :
    Calls Try.prog 24 #[v] w fun e w' => e = .returned (.string (bs (textsL L))) ∧ Below w.heap.size w w' := by
  rcases h with ⟨rfl, rfl⟩ | ⟨b, off, c, rfl, hb, hc⟩
  · exact text_nil w none 0
  · exact text_some L b off c w hn hL hb hc

set_option maxRecDepth 100000 in
set_option maxHeartbeats 1000000 in
theorem rtext_any (s : ByteArray) (w : World) (hs : s.size ≤ 1000000) :
    Calls Try.prog 25 #[.string s] w fun e w' => e = .returned (.string (bs (textL s.data.toList))) ∧ Below w.heap.size w w' := by
  have C := Lib.hid (rvar_any s.size w (by omega))
  have HE : Hid (bs (varL s.size) ++ s = bs (textL s.data.toList)) := by
    show _ = _
    apply ByteArray.ext
    rw [ByteArray.data_append]
    unfold bs textL
    simp
  have hadd := fun (W : World) => run_string_add_sum (P := Try.prog) W (bs (varL s.size)) s (by have := varL_ten s.size (by omega); rw [bs_size]; omega)
  go_enter Try.func25, Try.ntmps25
  go_wp2_with fail
  refine C.out.mono ?_
  rintro e w1 ⟨rfl, hb1⟩
  have HB := Lib.hid hb1; clear hb1
  go_wp2
  go_ret
  exact ⟨by rw [← HE.out]; rfl, HB.out⟩
end Go.Proofs.Ytojneafmdlohoaa
