/- What Fuse and Write answer and leave behind, for every device. -/
import Derived.Test.YthambopnmhkeeaaGreatZBase
import Derived.Test.YthambopnmhkeeaaGreatZWFix
import Derived.Lib.Hide
import Derived.Test.YthambopnmhkeeaaGreatZSActs

namespace Go.Proofs.YthambopnmhkeeaaGreat
open Go.RowKit
section
variable {S : Nat -> Prop} {w : World} {p q : Nat} {pv : Value} {D : DevS}

theorem DevS.Ok.setFuse (ok : D.Ok) (n : Int) (hn : n <= 9223372036854775807) : (D.setFuse n).Ok :=
  ⟨ok.some, ok.few, ok.whole, ok.pends, by simp [DevS.setFuse]; omega, by simp [DevS.setFuse]; omega⟩

set_option maxRecDepth 100000 in
set_option maxHeartbeats 400000 in
theorem fuse_walk (p : Nat) (w : World) (n k : Int) (b : Bool) (c2 : w.cell? ⟨p, 2, none⟩ = some (.bool b)) (c3 : w.cell? ⟨p, 3, none⟩ = some (.int .i64 k)) (f2 : w.frozen? ⟨p, 2, none⟩ = false) (f3 : w.frozen? ⟨p, 3, none⟩ = false) :
    Calls Tryz.prog 34 #[.pointer (some ⟨p, 0, none⟩), .int .i64 n] w fun e w' => e = .returned (.tuple #[]) /\ w' = (w.setCell ⟨p, 2, none⟩ (.bool (decide (0 <= n)))).setCell ⟨p, 3, none⟩ (.int .i64 (max n 0)) := by
  by_cases h : 0 <= n
  . rw [show max n 0 = n from by omega, show decide (0 <= n) = true from by simpa using h]
    go_enter Tryz.func34, Tryz.ntmps34
    go_wp2
    go_end0
    exact ⟨rfl, rfl⟩
  . have h' : n < 0 := by omega
    rw [show max n 0 = 0 from by omega, show decide (0 <= n) = false from by simpa using h]
    go_enter Tryz.func34, Tryz.ntmps34
    go_wp2
    go_end0
    exact ⟨rfl, rfl⟩

theorem fuse_dev (n : Int) (hn : n <= 9223372036854775807) (d : Dev S w p q pv D) :
    Calls Tryz.prog 34 #[.pointer (some ⟨p, 0, none⟩), .int .i64 n] w fun e w' => e = .returned (.tuple #[]) /\ Dev S w' p q pv (D.setFuse n) /\ Only S w w' /\ w'.heap.size = w.heap.size := by
  refine (fuse_walk p w n _ _ d.c2 d.c3 (d.f 2) (d.f 3)).mono fun e w' ⟨he, hw⟩ => ?_
  subst hw
  have d1 := d.put 2 (.bool (decide (0 <= n))) { D with fused := decide (0 <= n) } pv ⟨d.ok.some, d.ok.few, d.ok.whole, d.ok.pends, d.ok.fuse0, d.ok.fuse1⟩ rfl rfl d.hr d.rp d.rq d.sr
  have d2 := d1.put 3 (.int .i64 (max n 0)) (D.setFuse n) pv (d.ok.setFuse n hn) rfl rfl d1.hr d.rp d.rq d.sr
  exact ⟨he, d2, ((Only.refl _ _).setCell (fun _ => d.sp) _).setCell (fun _ => d.sp) _, by simp [World.setCell]⟩

theorem fuse_any (n : Int) (hn : n <= 9223372036854775807) (d : Stands S w p D) :
    Calls Tryz.prog 34 #[.pointer (some ⟨p, 0, none⟩), .int .i64 n] w fun e w' => e = .returned (.tuple #[]) /\ Stands S w' p (D.setFuse n) /\ Only S w w' := by
  obtain ⟨q, pv, d⟩ := d
  exact (fuse_dev n hn d).mono fun e w' ⟨he, h1, h2, _⟩ => ⟨he, ⟨q, pv, h1⟩, h2⟩

theorem DevS.tk_pend (D : DevS) : D.tk.2.pend = D.pend := by unfold DevS.tk; (repeat' split) <;> rfl
theorem DevS.tk_disk (D : DevS) : D.tk.2.disk = D.disk := by unfold DevS.tk; (repeat' split) <;> rfl

theorem Dev.pushed {w1 w2 : World} {o : Obj} {v' : Value} {n : Nat} {xs : List Value} (d : Dev S w1 p q pv D) (hown : w2.ownsRow 0 63 2 v' n xs) (hg : (w1.alloc o).grownBy w2 pv.ownBlock)
    (hwh : ∀ k, v'.ownBlock = some k -> pv.ownBlock = some k \/ w1.heap.size + 1 <= k) :
    w2.cell? ⟨p, 1, none⟩ = some pv /\ w2.frozen? ⟨p, 1, none⟩ = false /\
    ∀ D' : DevS, D'.Ok -> D'.disk = D.disk -> D'.fused = D.fused -> D'.fuse = D.fuse -> D'.dead = D.dead -> n = D'.pend.length -> xs = flatW D'.pend ->
      Dev (fun k => S k \/ (w1.heap.size <= k /\ k < w2.heap.size)) (w2.setCell ⟨p, 1, none⟩ v') p q v' D' /\ Only S w1 (w2.setCell ⟨p, 1, none⟩ v') := by
  have lp := d.lt p d.sp; have lq := d.lt q d.sq
  have hp2 : w2.heap[p]? = w1.heap[p]? := by rw [hg.block p (by simp; omega) (fun e => d.rp e.symm), Below.heap_alloc _ _ _ lp]
  have hq2 : w2.heap[q]? = w1.heap[q]? := by rw [hg.block q (by simp; omega) (fun e => d.rq e.symm), Below.heap_alloc _ _ _ lq]
  have hz := hg.size; simp at hz
  refine ⟨?_, ?_, ?_⟩
  . rw [World.cell?_of_block (w := w1) hp2]; exact d.c1
  . rw [World.frozen?_of_block (w := w1) hp2]; exact d.f 1
  . intro D' ok hd hf hn hde hln hxs
    subst hln hxs
    have np : v'.ownBlock ≠ some p := fun e => by
      rcases hwh p e with h | h
      . exact d.rp h
      . omega
    have nq : v'.ownBlock ≠ some q := fun e => by
      rcases hwh q e with h | h
      . exact d.rq h
      . omega
    have hO : Only S w1 w2 := by
      refine (((Only.refl S w1).alloc o)).trans (T := fun k => some k = pv.ownBlock) ⟨hg.os, hg.tape, hg.output, hg.size, fun k hk hne => hg.block k hk hne⟩ ?_
      intro i _ hi
      exact d.sr i hi.symm
    refine ⟨⟨ok, ?_, ?_, ?_, d.pq, np, nq, .inl d.sp, .inl d.sq, ?_, ?_⟩, hO.setCell (fun _ => d.sp) _⟩
    . rw [heap_setCell_at (hp2.trans d.hp), hd, hf, hn, hde]; rfl
    . rw [Below.heap_setCell _ _ _ _ (Ne.symm d.pq), hd, hq2]; exact d.hq
    . exact ownsRow_setCell_other hown (by simpa using np) _
    . intro k hk
      rcases hwh k hk with h | h
      . exact .inl (d.sr k h)
      . exact .inr ⟨by omega, (hown.lt k hk).2⟩
    . intro k hk
      have : (w2.setCell ⟨p, 1, none⟩ v').heap.size = w2.heap.size := by simp [World.setCell]
      rw [this]
      rcases hk with h | h
      . have := d.lt k h; omega
      . exact h.2

theorem _root_.Go.Proofs.Tryz.infoW : (Tryz.prog.info? 63).map (fun i => (i.zero, i.size, i.bytes)) = some (some (.agg #[.int .i64 0, .string ⟨#[]⟩]), 2, 24) := by kernel_rfl

set_option maxRecDepth 100000 in
set_option maxHeartbeats 400000 in
theorem write_adds (i : Int) (s : ByteArray) (hs : s.size = 256) (hl : D.pend.length <= 1000000) (hck : D.ck i = 0) (htk : D.tk.1 = true) (d : Dev S w p q pv D) :
    Calls Tryz.prog 28 #[.pointer (some ⟨p, 0, none⟩), .int .i64 i, .string s] w fun e w' => e = .returned (.int .i64 0) /\ Leaves S w w' p { D.tk.2 with pend := D.pend ++ [(i.toNat, s)] } := by
  have cT := turn_any d; rw [htk] at cT
  have HT := Lib.hid cT; clear cT
  have cK := check_any i d; rw [hck] at cK
  have HK := Lib.hid cK; clear cK
  have H1 := Lib.hid hck; clear hck
  have H2 := Lib.hid htk; clear htk
  have H3 := Lib.hid hs
  have hs' : ((s.size : Int) != 256) = false := by simp [hs]
  clear hs
  have HD := Lib.hid d; clear d
  go_enter Tryz.func28, Tryz.ntmps28
  go_wp2_with fail
  refine HK.out.mono ?_
  rintro e w' ⟨rfl, rfl⟩
  go_wp2_with fail
  refine HT.out.mono ?_
  rintro e w1 ⟨rfl, hd1, ho1, hz1⟩
  have HD1 := Lib.hid hd1
  have c1 := hd1.c1
  have f1 := hd1.f 1
  clear hd1
  have HO := Lib.hid ho1; clear ho1
  have HZ := Lib.hid hz1; clear hz1
  obtain ⟨i0, hi, hz0, hz1, hz2⟩ := info_parts Tryz.infoW
  go_wp2_with (at_builtin; refine wpList_append_where _ rfl _ _ 49 rfl 0 63 i0 _ 2 24 Tryz.underlying49 hi hz0 hz1 hz2 rfl (by decide) _ _ _ rfl (HD1.out.hr.alloc _) ⟨w1.heap.size, 0, none⟩ 1 1 [.int .i64 i, .string s] rfl rfl ?c1 ?c2 ?c3 ?c4 ?c5 ?_)
  case c1 =>
    intro j u hj
    match j, hj with
    | 0, hj => simp at hj; subst hj; simp [Addr.add]
    | 1, hj => simp at hj; subst hj; simp [Addr.add]
  case c2 => intro u hu; simp at hu; rcases hu with rfl | rfl <;> rfl
  case c3 => rw [DevS.tk_pend]; unfold maxLen; omega
  case c4 => rw [DevS.tk_pend]; omega
  case c5 => exact Nat.zero_le _
  intro v' w2 hown' hgrow hwhere
  obtain ⟨g, cap, rfl⟩ := own_succ hown'
  have HP := Lib.hid (HD1.out.pushed hown' hgrow hwhere); clear hown' hwhere
  have c1' : w2.cell? ⟨p, 1, none⟩ = some pv := HP.out.1
  have f1' : w2.frozen? ⟨p, 1, none⟩ = false := HP.out.2.1
  clear hgrow c1 f1
  go_wp2
  go_ret
  have hk0 : 0 <= i /\ i < D.disk.length := by
    have := H1.out
    unfold DevS.ck at this
    split at this
    . omega
    . split at this <;> omega
  have ok1 := HD1.out.ok
  have hp := HP.out.2.2 { D.tk.2 with pend := D.pend ++ [(i.toNat, s)] } ⟨ok1.some, ok1.few, ok1.whole, ?_, ok1.fuse0, ok1.fuse1⟩ rfl rfl rfl rfl (by simp [DevS.tk_pend]) (by simp [DevS.tk_pend, flatW_append, flatW]; omega)
  . refine ⟨rfl, _, ?_, ⟨q, _, hp.1⟩, HO.out.trans hp.2 (fun _ _ h => h)⟩
    intro k hk
    rcases hk with h | h
    . exact .inl h
    . exact .inr (by have := HZ.out; omega)
  . intro x hx
    simp only [List.mem_append, List.mem_singleton] at hx
    rcases hx with h | rfl
    . exact ok1.pends x (by rw [DevS.tk_pend]; exact h)
    . exact ⟨by rw [DevS.tk_disk]; omega, H3.out⟩

set_option maxRecDepth 100000 in
set_option maxHeartbeats 400000 in
theorem write_no (i : Int) (s : ByteArray) (r : Int) (hr : (r != 0) = true) (hck : D.ck i = r) (d : Dev S w p q pv D) :
    Calls Tryz.prog 28 #[.pointer (some ⟨p, 0, none⟩), .int .i64 i, .string s] w fun e w' => e = .returned (.int .i64 r) /\ w = w' := by
  have cK := check_any i d; rw [hck] at cK
  have HK := Lib.hid cK; clear cK
  clear hck d
  go_enter Tryz.func28, Tryz.ntmps28
  go_wp2_with fail
  refine HK.out.mono ?_
  rintro e w' ⟨rfl, rfl⟩
  go_wp2
  go_ret
  exact ⟨rfl, rfl⟩

set_option maxRecDepth 100000 in
set_option maxHeartbeats 400000 in
theorem write_size (i : Int) (s : ByteArray) (hs : ((s.size : Int) != 256) = true) (hck : D.ck i = 0) (d : Dev S w p q pv D) :
    Calls Tryz.prog 28 #[.pointer (some ⟨p, 0, none⟩), .int .i64 i, .string s] w fun e w' => e = .returned (.int .i64 3) /\ w = w' := by
  have cK := check_any i d; rw [hck] at cK
  have HK := Lib.hid cK; clear cK
  clear hck d
  go_enter Tryz.func28, Tryz.ntmps28
  go_wp2_with fail
  refine HK.out.mono ?_
  rintro e w' ⟨rfl, rfl⟩
  go_wp2
  go_ret
  exact ⟨rfl, rfl⟩

set_option maxRecDepth 100000 in
set_option maxHeartbeats 400000 in
theorem write_dies (i : Int) (s : ByteArray) (hs : ((s.size : Int) != 256) = false) (hck : D.ck i = 0) (htk : D.tk.1 = false) (d : Dev S w p q pv D) :
    Calls Tryz.prog 28 #[.pointer (some ⟨p, 0, none⟩), .int .i64 i, .string s] w fun e w' => e = .returned (.int .i64 4) /\ Dev S w' p q pv D.tk.2 /\ Only S w w' := by
  have cK := check_any i d; rw [hck] at cK
  have HK := Lib.hid cK; clear cK
  have cT := turn_any d; rw [htk] at cT
  have HT := Lib.hid cT; clear cT
  clear hck htk d
  go_enter Tryz.func28, Tryz.ntmps28
  go_wp2_with fail
  refine HK.out.mono ?_
  rintro e w' ⟨rfl, rfl⟩
  go_wp2_with fail
  refine HT.out.mono ?_
  rintro e w1 ⟨rfl, hd1, ho1, hz1⟩
  have HD1 := Lib.hid hd1; clear hd1 hz1
  have HO := Lib.hid ho1; clear ho1
  go_wp2
  go_ret
  exact ⟨rfl, HD1.out, HO.out⟩

def DevS.wr (D : DevS) (i : Int) (s : ByteArray) : Int × DevS :=
  if D.ck i ≠ 0 then (D.ck i, D) else if s.size ≠ 256 then (3, D) else if D.tk.1 = false then (4, D.tk.2) else (0, { D.tk.2 with pend := D.pend ++ [(i.toNat, s)] })

theorem write_any (i : Int) (s : ByteArray) (hl : D.pend.length <= 1000000) (d : Stands S w p D) :
    Calls Tryz.prog 28 #[.pointer (some ⟨p, 0, none⟩), .int .i64 i, .string s] w fun e w' => e = .returned (.int .i64 (D.wr i s).1) /\ Leaves S w w' p (D.wr i s).2 := by
  obtain ⟨q, pv, d⟩ := d
  by_cases h1 : D.ck i = 0
  . by_cases h2 : s.size = 256
    . by_cases h3 : D.tk.1 = false
      . have e : D.wr i s = (4, D.tk.2) := by simp [DevS.wr, h1, h2, h3]
        rw [e]
        exact (write_dies i s (by simp [h2]) h1 h3 d).mono fun e w' ⟨he, hd, ho⟩ => ⟨he, .mk ⟨q, pv, hd⟩ ho⟩
      . have e : D.wr i s = (0, { D.tk.2 with pend := D.pend ++ [(i.toNat, s)] }) := by simp [DevS.wr, h1, h2, h3]
        rw [e]
        exact write_adds i s h2 hl h1 (by simpa using h3) d
    . have e : D.wr i s = (3, D) := by simp [DevS.wr, h1, h2]
      rw [e]
      exact (write_size i s (by simp; omega) h1 d).mono fun e w' ⟨he, hw⟩ => by subst hw; exact ⟨he, .mk ⟨q, pv, d⟩ (Only.refl _ _)⟩
  . have e : D.wr i s = (D.ck i, D) := by simp [DevS.wr, h1]
    rw [e]
    exact (write_no i s _ (by simpa using h1) rfl d).mono fun e w' ⟨he, hw⟩ => by subst hw; exact ⟨he, .mk ⟨q, pv, d⟩ (Only.refl _ _)⟩

end
end Go.Proofs.YthambopnmhkeeaaGreat
/- The document's own sum of bytes is the same: for any text; nothing is changed. -/
namespace Go.Proofs.YthambopnmhkeeaaGreat.Fr
open Go.RowKit

set_option maxRecDepth 100000 in
set_option maxHeartbeats 1000000 in
theorem rcrc_any (p : ByteArray) (w : World) (hs : p.size <= maxLen) :
    Calls Tryz.prog 184 #[.string p] w fun e w' => e = .returned (.int .u32 ((crcL p.data.toList : Nat) : Int)) /\ w = w' := by
  unfold maxLen at hs
  go_enter Tryz.func184, Tryz.ntmps184
  go_wp2
  go_loop [3, 4] (fun s i => ∃ k : Nat, k <= p.size /\ i = .int .i64 k /\ s = .int .u32 ((crcRaw 4294967295 (p.data.toList.take k) : Nat) : Int)) (fun _ i => p.size - (intOf i).toNat)
  case atStart => exact ⟨0, Nat.zero_le _, rfl, rfl⟩
  case round =>
    obtain ⟨k, hk, rfl, rfl⟩ := hrel
    have hxl := crcRaw_lt (p.data.toList.take k) 4294967295 (by omega)
    obtain ⟨x, hx⟩ : ∃ x, crcRaw 4294967295 (p.data.toList.take k) = x := ⟨_, rfl⟩
    rw [hx] at hxl ⊢
    have HX := Lib.hid hx; clear hx
    by_cases hlt : k < p.size
    . have HJ : Hid (crcRaw 4294967295 (p.data.toList.take (k + 1)) = addB x p[k]) := by show _ = _; rw [take_snoc p k hlt, crcRaw_snoc, HX.out]
      have hbl := byte_lt p[k]
      have HXX := Lib.hid (xor_u32 x p[k].toNat hxl (by omega))
      have HL := Lib.hid (xor_lt32 x p[k].toNat hxl (by omega))
      go_wp2
      go_loop [3, 5] (fun s i => ∃ j : Nat, j <= 8 /\ i = .int .i64 j /\ s = .int .u32 ((cIter j (x ^^^ p[k].toNat) : Nat) : Int)) (fun _ i => 8 - (intOf i).toNat)
      case atStart => exact ⟨0, Nat.zero_le _, rfl, ret_u32 HXX.out⟩
      case round =>
        obtain ⟨j, hj, rfl, rfl⟩ := hrel
        have hyl := cIter_lt j _ HL.out
        obtain ⟨y, hy⟩ : ∃ y, cIter j (x ^^^ p[k].toNat) = y := ⟨_, rfl⟩
        have HS : Hid (cIter (j + 1) (x ^^^ p[k].toNat) = cStep y) := by show _ = _; rw [cIter_succ', hy]
        rw [hy] at hyl ⊢
        have HY := Lib.hid hy; clear hy
        by_cases hjl : j < 8
        . by_cases ho : y % 2 = 1
          . have HF : Hid (bits .xor .u32 ((y : Int) / 2) 3988292384 = ((cStep y : Nat) : Int)) := by show _ = _; rw [half_xor y hyl]; unfold cStep; rw [if_pos ho]
            have ho' : (y : Int) % 2 = 1 := by omega
            clear ho
            go_wp2
            go_round
            case rel => exact ⟨j + 1, by omega, by go_num, by rw [HS.out]; exact ret_u32 HF.out⟩
            case measure => simp [intOf]; omega
          . have HF : Hid (((y : Int) / 2) = ((cStep y : Nat) : Int)) := by show _ = _; unfold cStep; rw [if_neg ho]; omega
            have ho' : (y : Int) % 2 = 0 := by omega
            clear ho
            go_wp2
            go_round
            case rel => exact ⟨j + 1, by omega, by go_num, by rw [HS.out]; exact ret_u32 HF.out⟩
            case measure => simp [intOf]; omega
        . have hj8 : j = 8 := by omega
          subst hj8
          have HE : Hid (y = addB x p[k]) := by show _ = _; rw [<- HY.out]; rfl
          go_wp2
          go_round
          case rel => exact ⟨k + 1, by omega, by go_num, by rw [HJ.out, HE.out]⟩
          case measure => simp [intOf]; omega
    . have HE : Hid (bits .xor .u32 (x : Int) 4294967295 = ((crcL p.data.toList : Nat) : Int)) := by
        show _ = _
        rw [show (4294967295 : Int) = ((4294967295 : Nat) : Int) from rfl, u32_xor_nat _ _ hxl (by omega), <- HX.out, List.take_of_length_le (by simp; omega)]; rfl
      go_wp2
      go_ret
      exact ⟨by rw [<- HE.out]; rfl, rfl⟩
end Go.Proofs.YthambopnmhkeeaaGreat.Fr
