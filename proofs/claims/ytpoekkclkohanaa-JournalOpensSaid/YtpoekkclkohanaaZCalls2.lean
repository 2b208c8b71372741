/- What Fuse and Write answer and leave behind, for every device. -/
import Derived.Test.YtpoekkclkohanaaZBase
import Derived.Lib.Hide
import Derived.Laws.BytesArg

namespace Go.Proofs.Ytpoekkclkohanaa
open Go.RowKit
section
variable {S : Nat → Prop} {w : World} {p q : Nat} {pv : Value} {D : DevS}

theorem DevS.Ok.setFuse (ok : D.Ok) (n : Int) (hn : n ≤ 9223372036854775807) : (D.setFuse n).Ok :=
  ⟨ok.some, ok.few, ok.whole, ok.pends, by simp [DevS.setFuse]; omega, by simp [DevS.setFuse]; omega⟩

theorem DevS.tk_pend (D : DevS) : D.tk.2.pend = D.pend := by unfold DevS.tk; (repeat' split) <;> rfl
theorem DevS.tk_disk (D : DevS) : D.tk.2.disk = D.disk := by unfold DevS.tk; (repeat' split) <;> rfl

/-- Behind an append onto the row of pending writes: the cells that are read then, and the device once the new row is stored. -/
theorem Dev.pushed {w1 w2 : World} {o : Obj} {v' : Value} {n : Nat} {xs : List Value} (d : Dev S w1 p q pv D) (hown : w2.ownsRow 0 58 2 v' n xs) (hg : (w1.alloc o).grownBy w2 pv.ownBlock)
    (hwh : ∀ k, v'.ownBlock = some k → pv.ownBlock = some k ∨ w1.heap.size + 1 ≤ k) :
    w2.cell? ⟨p, 1, none⟩ = some pv ∧ w2.frozen? ⟨p, 1, none⟩ = false ∧
    ∀ D' : DevS, D'.Ok → D'.disk = D.disk → D'.fused = D.fused → D'.fuse = D.fuse → D'.dead = D.dead → n = D'.pend.length → xs = flatW D'.pend →
      Dev (fun k => S k ∨ (w1.heap.size ≤ k ∧ k < w2.heap.size)) (w2.setCell ⟨p, 1, none⟩ v') p q v' D' ∧ Only S w1 (w2.setCell ⟨p, 1, none⟩ v') := by
  have lp := d.lt p d.sp; have lq := d.lt q d.sq
  have hp2 : w2.heap[p]? = w1.heap[p]? := by rw [hg.block p (by simp; omega) (fun e => d.rp e.symm), Below.heap_alloc _ _ _ lp]
  have hq2 : w2.heap[q]? = w1.heap[q]? := by rw [hg.block q (by simp; omega) (fun e => d.rq e.symm), Below.heap_alloc _ _ _ lq]
  have hz := hg.size; simp at hz
  refine ⟨?_, ?_, ?_⟩
  · rw [World.cell?_of_block (w := w1) hp2]; exact d.c1
  · rw [World.frozen?_of_block (w := w1) hp2]; exact d.f 1
  · intro D' ok hd hf hn hde hln hxs
    subst hln hxs
    have np : v'.ownBlock ≠ some p := fun e => by
      rcases hwh p e with h | h
      · exact d.rp h
      · omega
    have nq : v'.ownBlock ≠ some q := fun e => by
      rcases hwh q e with h | h
      · exact d.rq h
      · omega
    have hO : Only S w1 w2 := by
      refine (((Only.refl S w1).alloc o)).trans (T := fun k => some k = pv.ownBlock) ⟨hg.os, hg.tape, hg.output, hg.size, fun k hk hne => hg.block k hk hne⟩ ?_
      intro i _ hi
      exact d.sr i hi.symm
    refine ⟨⟨ok, ?_, ?_, ?_, d.pq, np, nq, .inl d.sp, .inl d.sq, ?_, ?_⟩, hO.setCell (fun _ => d.sp) _⟩
    · rw [heap_setCell_at (hp2.trans d.hp), hd, hf, hn, hde]; rfl
    · rw [Below.heap_setCell _ _ _ _ (Ne.symm d.pq), hd, hq2]; exact d.hq
    · exact ownsRow_setCell_other hown (by simpa using np) _
    · intro k hk
      rcases hwh k hk with h | h
      · exact .inl (d.sr k h)
      · exact .inr ⟨by omega, (hown.lt k hk).2⟩
    · intro k hk
      have : (w2.setCell ⟨p, 1, none⟩ v').heap.size = w2.heap.size := by simp [World.setCell]
      rw [this]
      rcases hk with h | h
      · have := d.lt k h; omega
      · exact h.2

theorem _root_.Go.Proofs.Try.infoW : (Try.prog.info? 58).map (fun i => (i.zero, i.size, i.bytes)) = some (some (.agg #[.int .i64 0, .string ⟨#[]⟩]), 2, 24) := by kernel_rfl

set_option maxRecDepth 100000 in
set_option maxHeartbeats 400000 in
theorem write_adds (i : Int) (s : ByteArray) (hs : s.size = 256) (hl : D.pend.length ≤ 1000000) (hck : D.ck i = 0) (htk : D.tk.1 = true) (d : Dev S w p q pv D) :
    Calls Try.prog 8 #[.pointer (some ⟨p, 0, none⟩), .int .i64 i, .string s] w fun e w' => e = .returned (.int .i64 0) ∧ Leaves S w w' p { D.tk.2 with pend := D.pend ++ [(i.toNat, s)] } := by
  have cT := turn_any d; rw [htk] at cT
  have HT := Lib.hid cT; clear cT
  have cK := check_any i d; rw [hck] at cK
  have HK := Lib.hid cK; clear cK
  have H1 := Lib.hid hck; clear hck
  have H2 := Lib.hid htk; clear htk
  have H3 := Lib.hid hs
  have hs' : ((s.size : Int) != 256) = false := by simp [hs]
  clear hs
  have HD := Lib.hid d; clear d
  go_enter Try.func8, Try.ntmps8
  go_wp2_with fail
  refine HK.out.mono ?_
  rintro e w' ⟨rfl, rfl⟩
  go_wp2_with fail
  refine HT.out.mono ?_
  rintro e w1 ⟨rfl, hd1, ho1, hz1⟩
  have HD1 := Lib.hid hd1
  have c1 := hd1.c1
  have f1 := hd1.f 1
  clear hd1
  have HO := Lib.hid ho1; clear ho1
  have HZ := Lib.hid hz1; clear hz1
  obtain ⟨i0, hi, hz0, hz1, hz2⟩ := info_parts Try.infoW
  go_wp2_with (at_builtin; refine wpList_append_where _ rfl _ _ 42 rfl 0 58 i0 _ 2 24 Try.underlying42 hi hz0 hz1 hz2 rfl (by decide) _ _ _ rfl (HD1.out.hr.alloc _) ⟨w1.heap.size, 0, none⟩ 1 1 [.int .i64 i, .string s] rfl rfl ?c1 ?c2 ?c3 ?c4 ?c5 ?_)
  case c1 =>
    intro j u hj
    match j, hj with
    | 0, hj => simp at hj; subst hj; simp [Addr.add]
    | 1, hj => simp at hj; subst hj; simp [Addr.add]
  case c2 => intro u hu; simp at hu; rcases hu with rfl | rfl <;> rfl
  case c3 => rw [DevS.tk_pend]; unfold maxLen; omega
  case c4 => rw [DevS.tk_pend]; omega
  case c5 => exact Nat.zero_le _
  intro v' w2 hown' hgrow hwhere
  obtain ⟨g, cap, rfl⟩ := own_succ hown'
  have HP := Lib.hid (HD1.out.pushed hown' hgrow hwhere); clear hown' hwhere
  have c1' : w2.cell? ⟨p, 1, none⟩ = some pv := HP.out.1
  have f1' : w2.frozen? ⟨p, 1, none⟩ = false := HP.out.2.1
  clear hgrow c1 f1
  go_wp2
  go_ret
  have hk0 : 0 ≤ i ∧ i < D.disk.length := by
    have := H1.out
    unfold DevS.ck at this
    split at this
    · omega
    · split at this <;> omega
  have ok1 := HD1.out.ok
  have hp := HP.out.2.2 { D.tk.2 with pend := D.pend ++ [(i.toNat, s)] } ⟨ok1.some, ok1.few, ok1.whole, ?_, ok1.fuse0, ok1.fuse1⟩ rfl rfl rfl rfl (by simp [DevS.tk_pend]) (by simp [DevS.tk_pend, flatW_append, flatW]; omega)
  · refine ⟨rfl, _, ?_, ⟨q, _, hp.1⟩, HO.out.trans hp.2 (fun _ _ h => h)⟩
    intro k hk
    rcases hk with h | h
    · exact .inl h
    · exact .inr (by have := HZ.out; omega)
  · intro x hx
    simp only [List.mem_append, List.mem_singleton] at hx
    rcases hx with h | rfl
    · exact ok1.pends x (by rw [DevS.tk_pend]; exact h)
    · exact ⟨by rw [DevS.tk_disk]; omega, H3.out⟩

set_option maxRecDepth 100000 in
set_option maxHeartbeats 400000 in
theorem write_no (i : Int) (s : ByteArray) (r : Int) (hr : (r != 0) = true) (hck : D.ck i = r) (d : Dev S w p q pv D) :
    Calls Try.prog 8 #[.pointer (some ⟨p, 0, none⟩), .int .i64 i, .string s] w fun e w' => e = .returned (.int .i64 r) ∧ w = w' := by
  have cK := check_any i d; rw [hck] at cK
  have HK := Lib.hid cK; clear cK
  clear hck d
  go_enter Try.func8, Try.ntmps8
  go_wp2_with fail
  refine HK.out.mono ?_
  rintro e w' ⟨rfl, rfl⟩
  go_wp2
  go_ret
  exact ⟨rfl, rfl⟩

set_option maxRecDepth 100000 in
set_option maxHeartbeats 400000 in
theorem write_size (i : Int) (s : ByteArray) (hs : ((s.size : Int) != 256) = true) (hck : D.ck i = 0) (d : Dev S w p q pv D) :
    Calls Try.prog 8 #[.pointer (some ⟨p, 0, none⟩), .int .i64 i, .string s] w fun e w' => e = .returned (.int .i64 3) ∧ w = w' := by
  have cK := check_any i d; rw [hck] at cK
  have HK := Lib.hid cK; clear cK
  clear hck d
  go_enter Try.func8, Try.ntmps8
  go_wp2_with fail
  refine HK.out.mono ?_
  rintro e w' ⟨rfl, rfl⟩
  go_wp2
  go_ret
  exact ⟨rfl, rfl⟩

set_option maxRecDepth 100000 in
set_option maxHeartbeats 400000 in
theorem write_dies (i : Int) (s : ByteArray) (hs : ((s.size : Int) != 256) = false) (hck : D.ck i = 0) (htk : D.tk.1 = false) (d : Dev S w p q pv D) :
    Calls Try.prog 8 #[.pointer (some ⟨p, 0, none⟩), .int .i64 i, .string s] w fun e w' => e = .returned (.int .i64 4) ∧ Dev S w' p q pv D.tk.2 ∧ Only S w w' := by
  have cK := check_any i d; rw [hck] at cK
  have HK := Lib.hid cK; clear cK
  have cT := turn_any d; rw [htk] at cT
  have HT := Lib.hid cT; clear cT
  clear hck htk d
  go_enter Try.func8, Try.ntmps8
  go_wp2_with fail
  refine HK.out.mono ?_
  rintro e w' ⟨rfl, rfl⟩
  go_wp2_with fail
  refine HT.out.mono ?_
  rintro e w1 ⟨rfl, hd1, ho1, hz1⟩
  have HD1 := Lib.hid hd1; clear hd1 hz1
  have HO := Lib.hid ho1; clear ho1
  go_wp2
  go_ret
  exact ⟨rfl, HD1.out, HO.out⟩

/-- A write: its error, and the device behind it. -/
def DevS.wr (D : DevS) (i : Int) (s : ByteArray) : Int × DevS :=
  if D.ck i ≠ 0 then (D.ck i, D) else if s.size ≠ 256 then (3, D) else if D.tk.1 = false then (4, D.tk.2) else (0, { D.tk.2 with pend := D.pend ++ [(i.toNat, s)] })

theorem write_any (i : Int) (s : ByteArray) (hl : D.pend.length ≤ 1000000) (d : Stands S w p D) :
    Calls Try.prog 8 #[.pointer (some ⟨p, 0, none⟩), .int .i64 i, .string s] w fun e w' => e = .returned (.int .i64 (D.wr i s).1) ∧ Leaves S w w' p (D.wr i s).2 := by
  obtain ⟨q, pv, d⟩ := d
  by_cases h1 : D.ck i = 0
  · by_cases h2 : s.size = 256
    · by_cases h3 : D.tk.1 = false
      · have e : D.wr i s = (4, D.tk.2) := by simp [DevS.wr, h1, h2, h3]
        rw [e]
        exact (write_dies i s (by simp [h2]) h1 h3 d).mono fun e w' ⟨he, hd, ho⟩ => ⟨he, .mk ⟨q, pv, hd⟩ ho⟩
      · have e : D.wr i s = (0, { D.tk.2 with pend := D.pend ++ [(i.toNat, s)] }) := by simp [DevS.wr, h1, h2, h3]
        rw [e]
        exact write_adds i s h2 hl h1 (by simpa using h3) d
    · have e : D.wr i s = (3, D) := by simp [DevS.wr, h1, h2]
      rw [e]
      exact (write_size i s (by simp; omega) h1 d).mono fun e w' ⟨he, hw⟩ => by subst hw; exact ⟨he, .mk ⟨q, pv, d⟩ (Only.refl _ _)⟩
  · have e : D.wr i s = (D.ck i, D) := by simp [DevS.wr, h1]
    rw [e]
    exact (write_no i s _ (by simpa using h1) rfl d).mono fun e w' ⟨he, hw⟩ => by subst hw; exact ⟨he, .mk ⟨q, pv, d⟩ (Only.refl _ _)⟩

end
end Go.Proofs.Ytpoekkclkohanaa
/- Rows of 256 bytes, and the texts that they are turned into. -/
namespace Go.Proofs.Ytpoekkclkohanaa
open Go.RowKit

/-- 256 numbers, of which the first k are f's, the others 0. -/
def rowI (f : Nat → Int) (k : Nat) : List Int := (List.range 256).map fun i => if i < k then f i else 0
theorem rowI_length (f : Nat → Int) (k : Nat) : (rowI f k).length = 256 := by simp [rowI]
theorem rowI_get (f : Nat → Int) (k i : Nat) (h : i < 256) : (rowI f k)[i]? = some (if i < k then f i else 0) := by simp [rowI, h]
theorem rowI_set (f : Nat → Int) (k : Nat) (h : k < 256) : (rowI f k).set k (f k) = rowI f (k + 1) := by
  apply List.ext_getElem?
  intro i
  by_cases hi : i < 256
  · rw [List.getElem?_set, rowI_get f (k + 1) i hi, rowI_length]
    by_cases e : k = i
    · subst e; simp [h]
    · simp only [e, if_false]
      rw [rowI_get f k i hi]
      by_cases h2 : i < k
      · rw [if_pos h2, if_pos (by omega)]
      · rw [if_neg h2, if_neg (by omega)]
  · rw [List.getElem?_eq_none (by simp [rowI_length]; omega), List.getElem?_eq_none (by simp [rowI_length]; omega)]
theorem rowI_stay (f : Nat → Int) (k : Nat) (h : f k = 0) : rowI f k = rowI f (k + 1) := by
  unfold rowI
  apply List.map_congr_left
  intro i _
  by_cases h2 : i < k
  · rw [if_pos h2, if_pos (by omega)]
  · by_cases e : i = k
    · subst e; simp [h]
    · rw [if_neg h2, if_neg (by omega)]
theorem zeros_any (f : Nat → Int) (n : Nat) : ((List.range n).map fun i => if i < 0 then f i else 0).map (Value.int .u8) = List.replicate n (Value.int .u8 0) := by
  induction n with
  | zero => rfl
  | succ n ih => rw [List.range_succ, List.map_append, List.map_append, ih, List.replicate_succ']; rfl
theorem rowI_zero (f : Nat → Int) : (rowI f 0).map (Value.int .u8) = List.replicate 256 (Value.int .u8 0) := zeros_any f 256
/-- The text of 256 bytes that f tells. -/
def textOf (f : Nat → Int) : ByteArray := strOfNums (rowI f 256)
theorem textOf_size (f : Nat → Int) : (textOf f).size = 256 := by unfold textOf; rw [strOfNums_size, rowI_length]
theorem textOf_eq (f : Nat → Int) : strOfNums (rowI f 256) = textOf f := rfl


/-- A row of 256 bytes at block g. -/
def Row (B : Nat) (w : World) (g : Nat) (f : Nat → Int) (k : Nat) : Prop := w.ownsRow B 5 1 (.slice (some ⟨g, 0, none⟩) 256 256) 256 ((rowI f k).map (Value.int .u8))
theorem Row.cell {B : Nat} {w : World} {g : Nat} {f : Nat → Int} {k : Nat} (h : Row B w g f k) (i : Nat) (hi : i < 256) : w.cell? ⟨g, i, none⟩ = some (.int .u8 (if i < k then f i else 0)) := by
  rw [World.ownsRow.cellAt h i (by omega), List.getElem?_map, rowI_get f k i hi]; rfl
theorem Row.free {B : Nat} {w : World} {g : Nat} {f : Nat → Int} {k : Nat} (h : Row B w g f k) (i : Nat) : w.frozen? ⟨g, i, none⟩ = false := World.ownsRow.frozenAt h i
theorem Row.store {B : Nat} {w : World} {g : Nat} {f : Nat → Int} {k : Nat} (h : Row B w g f k) (hk : k < 256) : Row B (w.setCell ⟨g, k, none⟩ (.int .u8 (f k))) g f (k + 1) := by
  have := (World.ownsRow.stored h k (.int .u8 (f k))).1
  unfold Row
  rw [← rowI_set f k hk, List.map_set]
  exact this
theorem Row.text {B : Nat} {w : World} {g : Nat} {f : Nat → Int} (h : Row B w g f 256) : (convert 71 9 (.slice (some ⟨g, 0, none⟩) 256 256)).run Try.prog w = .ok (.string (textOf f)) w := by
  refine run_convert_bytes_arg w 71 5 Try.underlying71 Try.underlying5 g 0 256 256 (rowI f 256) (rowI_length f 256) ?_ 9 Try.underlying9
  intro i hi
  rw [Nat.zero_add, h.cell i hi]
  simp [List.getD, rowI_get f 256 i hi]

end Go.Proofs.Ytpoekkclkohanaa
