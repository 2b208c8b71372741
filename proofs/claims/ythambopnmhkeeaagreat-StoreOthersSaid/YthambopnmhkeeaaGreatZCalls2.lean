/- What Fuse and Write answer and leave behind, for every device. -/
import Derived.Test.YthambopnmhkeeaaGreatZBase
import Derived.Lib.Hide
import Derived.Test.YthambopnmhkeeaaGreatRows
import Derived.Test.YthambopnmhkeeaaGreatZWMath
import Derived.WalkSpells
import Derived.WalkLawsBesides
import Derived.Laws.BitsAllLaws
import Derived.Laws.BytesArg

set_option maxRecDepth 100000
namespace Go.Proofs.YthambopnmhkeeaaGreat
open Go.RowKit
section
variable {S : Nat -> Prop} {w : World} {p q : Nat} {pv : Value} {D : DevS}
theorem DevS.Ok.setFuse (ok : D.Ok) (n : Int) (hn : n <= 9223372036854775807) : (D.setFuse n).Ok :=
 ⟨ok.some, ok.few, ok.whole, ok.pends, by simp [DevS.setFuse]; omega, by simp [DevS.setFuse]; omega⟩
set_option maxHeartbeats 400000 in
theorem fuse_walk (p : Nat) (w : World) (n k : Int) (b : Bool) (c2 : w.cell? ⟨p, 2, none⟩ = some (.bool b)) (c3 : w.cell? ⟨p, 3, none⟩ = some (.int .i64 k)) (f2 : w.frozen? ⟨p, 2, none⟩ = false) (f3 : w.frozen? ⟨p, 3, none⟩ = false) :
  Calls Tryz.prog 34 #[.pointer (some ⟨p, 0, none⟩), .int .i64 n] w fun e w' => e = .returned (.tuple #[]) /\ w' = (w.setCell ⟨p, 2, none⟩ (.bool (decide (0 <= n)))).setCell ⟨p, 3, none⟩ (.int .i64 (max n 0)) := by
 by_cases h : 0 <= n
 ·rw [show max n 0 = n from by omega, show decide (0 <= n) = true from by simpa using h]
  go_enter Tryz.func34, Tryz.ntmps34
  go_wp2
  go_end0
  exact ⟨rfl, rfl⟩
 ·have h' : n < 0 := by omega
  rw [show max n 0 = 0 from by omega, show decide (0 <= n) = false from by simpa using h]
  go_enter Tryz.func34, Tryz.ntmps34
  go_wp2
  go_end0
  exact ⟨rfl, rfl⟩
theorem fuse_dev (n : Int) (hn : n <= 9223372036854775807) (d : Dev S w p q pv D) :
  Calls Tryz.prog 34 #[.pointer (some ⟨p, 0, none⟩), .int .i64 n] w fun e w' => e = .returned (.tuple #[]) /\ Dev S w' p q pv (D.setFuse n) /\ Only S w w' /\ w'.heap.size = w.heap.size := by
 refine (fuse_walk p w n _ _ d.c2 d.c3 (d.f 2) (d.f 3)).mono fun e w' ⟨he, hw⟩ => ?_
 subst hw
 have d1 := d.put 2 (.bool (decide (0 <= n))) { D with fused := decide (0 <= n) } pv ⟨d.ok.some, d.ok.few, d.ok.whole, d.ok.pends, d.ok.fuse0, d.ok.fuse1⟩ rfl rfl d.hr d.rp d.rq d.sr
 have d2 := d1.put 3 (.int .i64 (max n 0)) (D.setFuse n) pv (d.ok.setFuse n hn) rfl rfl d1.hr d.rp d.rq d.sr
 exact ⟨he, d2, ((Only.refl _ _).setCell (fun _ => d.sp) _).setCell (fun _ => d.sp) _, by simp [World.setCell]⟩
theorem fuse_any (n : Int) (hn : n <= 9223372036854775807) (d : Stands S w p D) :
  Calls Tryz.prog 34 #[.pointer (some ⟨p, 0, none⟩), .int .i64 n] w fun e w' => e = .returned (.tuple #[]) /\ Stands S w' p (D.setFuse n) /\ Only S w w' := by
 obtain ⟨q, pv, d⟩ := d
 exact (fuse_dev n hn d).mono fun e w' ⟨he, h1, h2, _⟩ => ⟨he, ⟨q, pv, h1⟩, h2⟩
theorem DevS.tk_pend (D : DevS) : D.tk.2.pend = D.pend := by unfold DevS.tk; (repeat' split) <;> rfl
theorem DevS.tk_disk (D : DevS) : D.tk.2.disk = D.disk := by unfold DevS.tk; (repeat' split) <;> rfl
theorem Dev.pushed {w1 w2 : World} {o : Obj} {v' : Value} {n : Nat} {xs : List Value} (d : Dev S w1 p q pv D) (hown : w2.ownsRow 0 63 2 v' n xs) (hg : (w1.alloc o).grownBy w2 pv.ownBlock)
  (hwh : ∀ k, v'.ownBlock = some k -> pv.ownBlock = some k \/ w1.heap.size + 1 <= k) :
  w2.cell? ⟨p, 1, none⟩ = some pv /\ w2.frozen? ⟨p, 1, none⟩ = false /\
  ∀ D' : DevS, D'.Ok -> D'.disk = D.disk -> D'.fused = D.fused -> D'.fuse = D.fuse -> D'.dead = D.dead -> n = D'.pend.length -> xs = flatW D'.pend ->
   Dev (fun k => S k \/ (w1.heap.size <= k /\ k < w2.heap.size)) (w2.setCell ⟨p, 1, none⟩ v') p q v' D' /\ Only S w1 (w2.setCell ⟨p, 1, none⟩ v') := by
 have lp := d.lt p d.sp; have lq := d.lt q d.sq
 have hp2 : w2.heap[p]? = w1.heap[p]? := by rw [hg.block p (by simp; omega) (fun e => d.rp e.symm), Below.heap_alloc _ _ _ lp]
 have hq2 : w2.heap[q]? = w1.heap[q]? := by rw [hg.block q (by simp; omega) (fun e => d.rq e.symm), Below.heap_alloc _ _ _ lq]
 have hz := hg.size; simp at hz
 refine ⟨?_, ?_, ?_⟩
 ·rw [World.cell?_of_block (w := w1) hp2]; exact d.c1
 ·rw [World.frozen?_of_block (w := w1) hp2]; exact d.f 1
 ·intro D' ok hd hf hn hde hln hxs
  subst hln hxs
  have np : v'.ownBlock ≠ some p := fun e => by
   rcases hwh p e with h | h
   ·exact d.rp h
   ·omega
  have nq : v'.ownBlock ≠ some q := fun e => by
   rcases hwh q e with h | h
   ·exact d.rq h
   ·omega
  have hO : Only S w1 w2 := by
   refine (((Only.refl S w1).alloc o)).trans (T := fun k => some k = pv.ownBlock) ⟨hg.os, hg.tape, hg.output, hg.size, fun k hk hne => hg.block k hk hne⟩ ?_
   intro i _ hi
   exact d.sr i hi.symm
  refine ⟨⟨ok, ?_, ?_, ?_, d.pq, np, nq, .inl d.sp, .inl d.sq, ?_, ?_⟩, hO.setCell (fun _ => d.sp) _⟩
  ·rw [heap_setCell_at (hp2.trans d.hp), hd, hf, hn, hde]; rfl
  ·rw [Below.heap_setCell _ _ _ _ (Ne.symm d.pq), hd, hq2]; exact d.hq
  ·exact ownsRow_setCell_other hown (by simpa using np) _
  ·intro k hk
   rcases hwh k hk with h | h
   ·exact .inl (d.sr k h)
   ·exact .inr ⟨by omega, (hown.lt k hk).2⟩
  ·intro k hk
   have : (w2.setCell ⟨p, 1, none⟩ v').heap.size = w2.heap.size := by simp [World.setCell]
   rw [this]
   rcases hk with h | h
   ·have := d.lt k h; omega
   ·exact h.2
theorem _root_.Go.Proofs.Tryz.infoW : (Tryz.prog.info? 63).map (fun i => (i.zero, i.size, i.bytes)) = some (some (.agg #[.int .i64 0, .string ⟨#[]⟩]), 2, 24) := by kernel_rfl
set_option maxHeartbeats 400000 in
theorem write_adds (i : Int) (s : ByteArray) (hs : s.size = 256) (hl : D.pend.length <= 1000000) (hck : D.ck i = 0) (htk : D.tk.1 = true) (d : Dev S w p q pv D) :
  Calls Tryz.prog 28 #[.pointer (some ⟨p, 0, none⟩), .int .i64 i, .string s] w fun e w' => e = .returned (.int .i64 0) /\ Leaves S w w' p { D.tk.2 with pend := D.pend ++ [(i.toNat, s)] } := by
 have cT := turn_any d; rw [htk] at cT
 have HT := Lib.hid cT; clear cT
 have cK := check_any i d; rw [hck] at cK
 have HK := Lib.hid cK; clear cK
 have H1 := Lib.hid hck; clear hck
 have H2 := Lib.hid htk; clear htk
 have H3 := Lib.hid hs
 have hs' : ((s.size : Int) != 256) = false := by simp [hs]
 clear hs
 have HD := Lib.hid d; clear d
 go_enter Tryz.func28, Tryz.ntmps28
 go_wp2_with fail
 refine HK.out.mono ?_
 rintro e w' ⟨rfl, rfl⟩
 go_wp2_with fail
 refine HT.out.mono ?_
 rintro e w1 ⟨rfl, hd1, ho1, hz1⟩
 have HD1 := Lib.hid hd1
 have c1 := hd1.c1
 have f1 := hd1.f 1
 clear hd1
 have HO := Lib.hid ho1; clear ho1
 have HZ := Lib.hid hz1; clear hz1
 obtain ⟨i0, hi, hz0, hz1, hz2⟩ := info_parts Tryz.infoW
 go_wp2_with (at_builtin; refine wpList_append_where _ rfl _ _ 49 rfl 0 63 i0 _ 2 24 Tryz.underlying49 hi hz0 hz1 hz2 rfl (by decide) _ _ _ rfl (HD1.out.hr.alloc _) ⟨w1.heap.size, 0, none⟩ 1 1 [.int .i64 i, .string s] rfl rfl ?c1 ?c2 ?c3 ?c4 ?c5 ?_)
 case c1 =>
  intro j u hj
  match j, hj with
  | 0, hj => simp at hj; subst hj; simp [Addr.add]
  | 1, hj => simp at hj; subst hj; simp [Addr.add]
 case c2 => intro u hu; simp at hu; rcases hu with rfl | rfl <;> rfl
 case c3 => rw [DevS.tk_pend]; unfold maxLen; omega
 case c4 => rw [DevS.tk_pend]; omega
 case c5 => exact Nat.zero_le _
 intro v' w2 hown' hgrow hwhere
 obtain ⟨g, cap, rfl⟩ := own_succ hown'
 have HP := Lib.hid (HD1.out.pushed hown' hgrow hwhere); clear hown' hwhere
 have c1' : w2.cell? ⟨p, 1, none⟩ = some pv := HP.out.1
 have f1' : w2.frozen? ⟨p, 1, none⟩ = false := HP.out.2.1
 clear hgrow c1 f1
 go_wp2
 go_ret
 have hk0 : 0 <= i /\ i < D.disk.length := by
  have := H1.out
  unfold DevS.ck at this
  split at this
  ·omega
  ·split at this <;> omega
 have ok1 := HD1.out.ok
 have hp := HP.out.2.2 { D.tk.2 with pend := D.pend ++ [(i.toNat, s)] } ⟨ok1.some, ok1.few, ok1.whole, ?_, ok1.fuse0, ok1.fuse1⟩ rfl rfl rfl rfl (by simp [DevS.tk_pend]) (by simp [DevS.tk_pend, flatW_append, flatW]; omega)
 ·refine ⟨rfl, _, ?_, ⟨q, _, hp.1⟩, HO.out.trans hp.2 (fun _ _ h => h)⟩
  intro k hk
  rcases hk with h | h
  ·exact .inl h
  ·exact .inr (by have := HZ.out; omega)
 ·intro x hx
  simp only [List.mem_append, List.mem_singleton] at hx
  rcases hx with h | rfl
  ·exact ok1.pends x (by rw [DevS.tk_pend]; exact h)
  ·exact ⟨by rw [DevS.tk_disk]; omega, H3.out⟩
set_option maxHeartbeats 400000 in
theorem write_no (i : Int) (s : ByteArray) (r : Int) (hr : (r != 0) = true) (hck : D.ck i = r) (d : Dev S w p q pv D) :
  Calls Tryz.prog 28 #[.pointer (some ⟨p, 0, none⟩), .int .i64 i, .string s] w fun e w' => e = .returned (.int .i64 r) /\ w = w' := by
 have cK := check_any i d; rw [hck] at cK
 have HK := Lib.hid cK; clear cK
 clear hck d
 go_enter Tryz.func28, Tryz.ntmps28
 go_wp2_with fail
 refine HK.out.mono ?_
 rintro e w' ⟨rfl, rfl⟩
 go_wp2
 go_ret
 exact ⟨rfl, rfl⟩
set_option maxHeartbeats 400000 in
theorem write_size (i : Int) (s : ByteArray) (hs : ((s.size : Int) != 256) = true) (hck : D.ck i = 0) (d : Dev S w p q pv D) :
  Calls Tryz.prog 28 #[.pointer (some ⟨p, 0, none⟩), .int .i64 i, .string s] w fun e w' => e = .returned (.int .i64 3) /\ w = w' := by
 have cK := check_any i d; rw [hck] at cK
 have HK := Lib.hid cK; clear cK
 clear hck d
 go_enter Tryz.func28, Tryz.ntmps28
 go_wp2_with fail
 refine HK.out.mono ?_
 rintro e w' ⟨rfl, rfl⟩
 go_wp2
 go_ret
 exact ⟨rfl, rfl⟩
set_option maxHeartbeats 400000 in
theorem write_dies (i : Int) (s : ByteArray) (hs : ((s.size : Int) != 256) = false) (hck : D.ck i = 0) (htk : D.tk.1 = false) (d : Dev S w p q pv D) :
  Calls Tryz.prog 28 #[.pointer (some ⟨p, 0, none⟩), .int .i64 i, .string s] w fun e w' => e = .returned (.int .i64 4) /\ Dev S w' p q pv D.tk.2 /\ Only S w w' := by
 have cK := check_any i d; rw [hck] at cK
 have HK := Lib.hid cK; clear cK
 have cT := turn_any d; rw [htk] at cT
 have HT := Lib.hid cT; clear cT
 clear hck htk d
 go_enter Tryz.func28, Tryz.ntmps28
 go_wp2_with fail
 refine HK.out.mono ?_
 rintro e w' ⟨rfl, rfl⟩
 go_wp2_with fail
 refine HT.out.mono ?_
 rintro e w1 ⟨rfl, hd1, ho1, hz1⟩
 have HD1 := Lib.hid hd1; clear hd1 hz1
 have HO := Lib.hid ho1; clear ho1
 go_wp2
 go_ret
 exact ⟨rfl, HD1.out, HO.out⟩
def DevS.wr (D : DevS) (i : Int) (s : ByteArray) : Int × DevS :=
 if D.ck i ≠ 0 then (D.ck i, D) else if s.size ≠ 256 then (3, D) else if D.tk.1 = false then (4, D.tk.2) else (0, { D.tk.2 with pend := D.pend ++ [(i.toNat, s)] })
theorem write_any (i : Int) (s : ByteArray) (hl : D.pend.length <= 1000000) (d : Stands S w p D) :
  Calls Tryz.prog 28 #[.pointer (some ⟨p, 0, none⟩), .int .i64 i, .string s] w fun e w' => e = .returned (.int .i64 (D.wr i s).1) /\ Leaves S w w' p (D.wr i s).2 := by
 obtain ⟨q, pv, d⟩ := d
 by_cases h1 : D.ck i = 0
 ·by_cases h2 : s.size = 256
  ·by_cases h3 : D.tk.1 = false
   ·have e : D.wr i s = (4, D.tk.2) := by simp [DevS.wr, h1, h2, h3]
    rw [e]
    exact (write_dies i s (by simp [h2]) h1 h3 d).mono fun e w' ⟨he, hd, ho⟩ => ⟨he, .mk ⟨q, pv, hd⟩ ho⟩
   ·have e : D.wr i s = (0, { D.tk.2 with pend := D.pend ++ [(i.toNat, s)] }) := by simp [DevS.wr, h1, h2, h3]
    rw [e]
    exact write_adds i s h2 hl h1 (by simpa using h3) d
  ·have e : D.wr i s = (3, D) := by simp [DevS.wr, h1, h2]
   rw [e]
   exact (write_size i s (by simp; omega) h1 d).mono fun e w' ⟨he, hw⟩ => by subst hw; exact ⟨he, .mk ⟨q, pv, d⟩ (Only.refl _ _)⟩
 ·have e : D.wr i s = (D.ck i, D) := by simp [DevS.wr, h1]
  rw [e]
  exact (write_no i s _ (by simpa using h1) rfl d).mono fun e w' ⟨he, hw⟩ => by subst hw; exact ⟨he, .mk ⟨q, pv, d⟩ (Only.refl _ _)⟩
end
end Go.Proofs.YthambopnmhkeeaaGreat
/- The sum of bytes: what addByte and Crc answer, for any byte and any texts; nothing that was there is changed. -/
set_option maxRecDepth 100000
namespace Go.Proofs.YthambopnmhkeeaaGreat.Fr
open Go.RowKit
theorem odd_and (x : Nat) (h : x < 4294967296) : bits .and .u32 (x : Int) 1 = ((x % 2 : Nat) : Int) := by
 rw [show (1 : Int) = ((1 : Nat) : Int) from rfl, u32_and_nat x 1 h (by omega), nat_mask1]
theorem xor_u32 (a b : Nat) (ha : a < 4294967296) (hb : b < 4294967296) : bits .xor .u32 (a : Int) (b : Int) = ((a ^^^ b : Nat) : Int) := u32_xor_nat a b ha hb
theorem half_xor (x : Nat) (h : x < 4294967296) : bits .xor .u32 ((x : Int) / 2) 3988292384 = ((x / 2 ^^^ 3988292384 : Nat) : Int) := by
 rw [show (x : Int) / 2 = ((x / 2 : Nat) : Int) by omega, show (3988292384 : Int) = ((3988292384 : Nat) : Int) from rfl, u32_xor_nat _ _ (by omega) (by omega)]
theorem ret_u32 {k : IntKind} {a b : Int} (h : a = b) : Value.int k a = .int k b := by rw [h]
set_option maxHeartbeats 1000000 in
theorem addByte_any (c : Nat) (b : UInt8) (w : World) (hc : c < 4294967296) :
  Calls Tryz.prog 224 #[.int .u32 (c : Int), .int .u8 (b.toNat : Int)] w fun e w' => e = .returned (.int .u32 ((addB c b : Nat) : Int)) /\ w = w' := by
 have hb := byte_lt b
 have HX := Lib.hid (xor_u32 c b.toNat hc (by omega))
 have HL := Lib.hid (xor_lt32 c b.toNat hc (by omega))
 go_enter Tryz.func224, Tryz.ntmps224
 go_wp2
 go_loop [0, 10] (fun s i => ∃ k : Nat, k <= 8 /\ i = .int .i64 k /\ s = .int .u32 ((cIter k (c ^^^ b.toNat) : Nat) : Int)) (fun _ i => 8 - (intOf i).toNat)
 case atStart => exact ⟨0, Nat.zero_le _, rfl, ret_u32 HX.out⟩
 case round =>
  obtain ⟨k, hk, rfl, rfl⟩ := hrel
  have hxl := cIter_lt k _ HL.out
  obtain ⟨x, hx⟩ : ∃ x, cIter k (c ^^^ b.toNat) = x := ⟨_, rfl⟩
  have HS : Hid (cIter (k + 1) (c ^^^ b.toNat) = cStep x) := by show _ = _; rw [cIter_succ', hx]
  rw [hx] at hxl ⊢
  have HXX := Lib.hid hx; clear hx
  by_cases hlt : k < 8
  ·by_cases ho : x % 2 = 1
   ·have hand : bits .and .u32 (x : Int) 1 = 1 := by rw [odd_and x hxl, ho]; rfl
    have HF : Hid (bits .xor .u32 ((x : Int) / 2) 3988292384 = ((cStep x : Nat) : Int)) := by show _ = _; rw [half_xor x hxl]; unfold cStep; rw [if_pos ho]
    clear ho
    go_wp2
    go_round
    case rel => exact ⟨k + 1, by omega, by go_num, by rw [HS.out]; exact ret_u32 HF.out⟩
    case measure => simp [intOf]; omega
   ·have hand : bits .and .u32 (x : Int) 1 = 0 := by rw [odd_and x hxl, show x % 2 = 0 by omega]; rfl
    have HF : Hid (((x : Int) / 2) = ((cStep x : Nat) : Int)) := by show _ = _; unfold cStep; rw [if_neg ho]; omega
    clear ho
    go_wp2
    go_round
    case rel => exact ⟨k + 1, by omega, by go_num, by rw [HS.out]; exact ret_u32 HF.out⟩
    case measure => simp [intOf]; omega
  ·have hk8 : k = 8 := by omega
   subst hk8
   go_wp2
   go_ret
   exact ⟨by rw [<- HXX.out]; rfl, rfl⟩
def joinB (L : List ByteArray) : List UInt8 := L.flatMap fun s => s.data.toList
theorem joinB_take (L : List ByteArray) (k : Nat) (h : k < L.length) : joinB (L.take (k + 1)) = joinB (L.take k) ++ L[k].data.toList := by
 rw [List.take_succ_eq_append_getElem h]; unfold joinB; rw [List.flatMap_append]; simp only [List.flatMap_cons, List.flatMap_nil, List.append_nil]
theorem take_snoc (s : ByteArray) (k : Nat) (h : k < s.size) : s.data.toList.take (k + 1) = s.data.toList.take k ++ [s[k]] := by
 rw [List.take_succ_eq_append_getElem (by simpa using h)]; rfl
theorem not_u32 (x : Nat) (h : x < 4294967296) : bits .xor .u32 IntKind.u32.max (x : Int) = ((x ^^^ 4294967295 : Nat) : Int) := by
 rw [show IntKind.u32.max = ((4294967295 : Nat) : Int) from rfl, u32_xor_nat _ _ (by omega) h, Nat.xor_comm]
set_option maxHeartbeats 1000000 in
theorem crc_some (L : List ByteArray) (b off c : Nat) (w : World) (hn : L.length <= maxLen) (hs : ∀ s ∈ L, s.size <= maxLen)
  (hc : ∀ j (h : j < L.length), w.cell? ⟨b, off + j, none⟩ = some (.string L[j])) :
  Calls Tryz.prog 207 #[.slice (some ⟨b, off, none⟩) L.length c] w fun e w' => e = .returned (.int .u32 ((crcL (joinB L) : Nat) : Int)) /\ w = w' := by
 unfold maxLen at hn
 have HC := Lib.hid hc; clear hc
 have HS := Lib.hid hs; clear hs
 go_enter Tryz.func207, Tryz.ntmps207
 go_wp2
 go_loop [3, 9] (fun s i => ∃ k : Nat, k <= L.length /\ i = .int .i64 k /\ s = .int .u32 ((crcRaw 4294967295 (joinB (L.take k)) : Nat) : Int)) (fun _ i => L.length - (intOf i).toNat)
 case atStart => exact ⟨0, Nat.zero_le _, rfl, rfl⟩
 case round =>
  obtain ⟨k, hk, rfl, rfl⟩ := hrel
  have hxl := crcRaw_lt (joinB (L.take k)) 4294967295 (by omega)
  obtain ⟨x, hx⟩ : ∃ x, crcRaw 4294967295 (joinB (L.take k)) = x := ⟨_, rfl⟩
  rw [hx] at hxl ⊢
  have HX := Lib.hid hx; clear hx
  by_cases hlt : k < L.length
  ·have hcell := HC.out k hlt
   have hsz := HS.out L[k] (List.getElem_mem hlt)
   have HJ : Hid (crcRaw 4294967295 (joinB (L.take (k + 1))) = crcRaw x L[k].data.toList) := by show _ = _; rw [joinB_take L k hlt, crcRaw_append, HX.out]
   unfold maxLen at hsz
   obtain ⟨p, hp⟩ : ∃ p, L[k] = p := ⟨_, rfl⟩
   rw [hp] at hcell hsz HJ
   clear hp
   go_wp2
   go_loop [3, 15] (fun s i => ∃ j : Nat, j <= p.size /\ i = .int .i64 j /\ s = .int .u32 ((crcRaw x (p.data.toList.take j) : Nat) : Int)) (fun _ i => p.size - (intOf i).toNat)
   case atStart => exact ⟨0, Nat.zero_le _, rfl, rfl⟩
   case round =>
    obtain ⟨j, hj, rfl, rfl⟩ := hrel
    have hyl := crcRaw_lt (p.data.toList.take j) x hxl
    obtain ⟨y, hy⟩ : ∃ y, crcRaw x (p.data.toList.take j) = y := ⟨_, rfl⟩
    rw [hy] at hyl ⊢
    have HY := Lib.hid hy; clear hy
    by_cases hjl : j < p.size
    ·have HJ2 : Hid (crcRaw x (p.data.toList.take (j + 1)) = addB y p[j]) := by show _ = _; rw [take_snoc p j hjl, crcRaw_snoc, HY.out]
     go_wp2_with (go_at_call 224; refine (addByte_any y p[j] _ hyl).mono ?_; rintro e w' ⟨rfl, rfl⟩)
     go_round
     case rel => exact ⟨j + 1, by omega, by go_num, by rw [HJ2.out]⟩
     case measure => simp [intOf]; omega
    ·have HE : Hid (y = crcRaw x p.data.toList) := by show _ = _; rw [<- HY.out, List.take_of_length_le (by simp; omega)]
     go_wp2
     go_round
     case rel => exact ⟨k + 1, by omega, by go_num, by rw [HJ.out, HE.out]⟩
     case measure => simp [intOf]; omega
  ·have HE : Hid (bits .xor .u32 IntKind.u32.max (x : Int) = ((crcL (joinB L) : Nat) : Int)) := by
    show _ = _
    rw [not_u32 x hxl, <- HX.out, List.take_of_length_le (by omega)]; rfl
   go_wp2
   go_ret
   exact ⟨by rw [<- HE.out]; rfl, rfl⟩
end Go.Proofs.YthambopnmhkeeaaGreat.Fr
/- Rows of 256 bytes, and the texts that they are turned into. -/
namespace Go.Proofs.YthambopnmhkeeaaGreat
open Go.RowKit
def rowI (f : Nat -> Int) (k : Nat) : List Int := (List.range 256).map fun i => if i < k then f i else 0
theorem rowI_length (f : Nat -> Int) (k : Nat) : (rowI f k).length = 256 := by simp [rowI]
theorem rowI_get (f : Nat -> Int) (k i : Nat) (h : i < 256) : (rowI f k)[i]? = some (if i < k then f i else 0) := by simp [rowI, h]
theorem rowI_set (f : Nat -> Int) (k : Nat) (h : k < 256) : (rowI f k).set k (f k) = rowI f (k + 1) := by
 apply List.ext_getElem?
 intro i
 by_cases hi : i < 256
 ·rw [List.getElem?_set, rowI_get f (k + 1) i hi, rowI_length]
  by_cases e : k = i
  ·subst e; simp [h]
  ·simp only [e, if_false]
   rw [rowI_get f k i hi]
   by_cases h2 : i < k
   ·rw [if_pos h2, if_pos (by omega)]
   ·rw [if_neg h2, if_neg (by omega)]
 ·rw [List.getElem?_eq_none (by simp [rowI_length]; omega), List.getElem?_eq_none (by simp [rowI_length]; omega)]
theorem zeros_any (f : Nat -> Int) (n : Nat) : ((List.range n).map fun i => if i < 0 then f i else 0).map (Value.int .u8) = List.replicate n (Value.int .u8 0) := by
 induction n with
 | zero => rfl
 | succ n ih => rw [List.range_succ, List.map_append, List.map_append, ih, List.replicate_succ']; rfl
theorem rowI_zero (f : Nat -> Int) : (rowI f 0).map (Value.int .u8) = List.replicate 256 (Value.int .u8 0) := zeros_any f 256
def textOf (f : Nat -> Int) : ByteArray := strOfNums (rowI f 256)
theorem textOf_size (f : Nat -> Int) : (textOf f).size = 256 := by unfold textOf; rw [strOfNums_size, rowI_length]
def Row (B : Nat) (w : World) (g : Nat) (f : Nat -> Int) (k : Nat) : Prop := w.ownsRow B 5 1 (.slice (some ⟨g, 0, none⟩) 256 256) 256 ((rowI f k).map (Value.int .u8))
theorem Row.cell {B : Nat} {w : World} {g : Nat} {f : Nat -> Int} {k : Nat} (h : Row B w g f k) (i : Nat) (hi : i < 256) : w.cell? ⟨g, i, none⟩ = some (.int .u8 (if i < k then f i else 0)) := by
 rw [World.ownsRow.cellAt h i (by omega), List.getElem?_map, rowI_get f k i hi]; rfl
theorem Row.free {B : Nat} {w : World} {g : Nat} {f : Nat -> Int} {k : Nat} (h : Row B w g f k) (i : Nat) : w.frozen? ⟨g, i, none⟩ = false := World.ownsRow.frozenAt h i
theorem Row.store {B : Nat} {w : World} {g : Nat} {f : Nat -> Int} {k : Nat} (h : Row B w g f k) (hk : k < 256) : Row B (w.setCell ⟨g, k, none⟩ (.int .u8 (f k))) g f (k + 1) := by
 have := (World.ownsRow.stored h k (.int .u8 (f k))).1
 unfold Row
 rw [<- rowI_set f k hk, List.map_set]
 exact this
theorem Row.text {B : Nat} {w : World} {g : Nat} {f : Nat -> Int} (h : Row B w g f 256) : (convert 107 9 (.slice (some ⟨g, 0, none⟩) 256 256)).run Tryz.prog w = .ok (.string (textOf f)) w := by
 refine run_convert_bytes_arg w 107 5 Tryz.underlying107 Tryz.underlying5 g 0 256 256 (rowI f 256) (rowI_length f 256) ?_ 9 Tryz.underlying9
 intro i hi
 rw [Nat.zero_add, h.cell i hi]
 simp [List.getD, rowI_get f 256 i hi]
end Go.Proofs.YthambopnmhkeeaaGreat
/- The document's own sum of bytes is the same: for any text; nothing is changed. -/
set_option maxRecDepth 100000
namespace Go.Proofs.YthambopnmhkeeaaGreat.Fr
open Go.RowKit
set_option maxHeartbeats 1000000 in
theorem rcrc_any (p : ByteArray) (w : World) (hs : p.size <= maxLen) :
  Calls Tryz.prog 184 #[.string p] w fun e w' => e = .returned (.int .u32 ((crcL p.data.toList : Nat) : Int)) /\ w = w' := by
 unfold maxLen at hs
 go_enter Tryz.func184, Tryz.ntmps184
 go_wp2
 go_loop [3, 4] (fun s i => ∃ k : Nat, k <= p.size /\ i = .int .i64 k /\ s = .int .u32 ((crcRaw 4294967295 (p.data.toList.take k) : Nat) : Int)) (fun _ i => p.size - (intOf i).toNat)
 case atStart => exact ⟨0, Nat.zero_le _, rfl, rfl⟩
 case round =>
  obtain ⟨k, hk, rfl, rfl⟩ := hrel
  have hxl := crcRaw_lt (p.data.toList.take k) 4294967295 (by omega)
  obtain ⟨x, hx⟩ : ∃ x, crcRaw 4294967295 (p.data.toList.take k) = x := ⟨_, rfl⟩
  rw [hx] at hxl ⊢
  have HX := Lib.hid hx; clear hx
  by_cases hlt : k < p.size
  ·have HJ : Hid (crcRaw 4294967295 (p.data.toList.take (k + 1)) = addB x p[k]) := by show _ = _; rw [take_snoc p k hlt, crcRaw_snoc, HX.out]
   have hbl := byte_lt p[k]
   have HXX := Lib.hid (xor_u32 x p[k].toNat hxl (by omega))
   have HL := Lib.hid (xor_lt32 x p[k].toNat hxl (by omega))
   go_wp2
   go_loop [3, 5] (fun s i => ∃ j : Nat, j <= 8 /\ i = .int .i64 j /\ s = .int .u32 ((cIter j (x ^^^ p[k].toNat) : Nat) : Int)) (fun _ i => 8 - (intOf i).toNat)
   case atStart => exact ⟨0, Nat.zero_le _, rfl, ret_u32 HXX.out⟩
   case round =>
    obtain ⟨j, hj, rfl, rfl⟩ := hrel
    have hyl := cIter_lt j _ HL.out
    obtain ⟨y, hy⟩ : ∃ y, cIter j (x ^^^ p[k].toNat) = y := ⟨_, rfl⟩
    have HS : Hid (cIter (j + 1) (x ^^^ p[k].toNat) = cStep y) := by show _ = _; rw [cIter_succ', hy]
    rw [hy] at hyl ⊢
    have HY := Lib.hid hy; clear hy
    by_cases hjl : j < 8
    ·by_cases ho : y % 2 = 1
     ·have HF : Hid (bits .xor .u32 ((y : Int) / 2) 3988292384 = ((cStep y : Nat) : Int)) := by show _ = _; rw [half_xor y hyl]; unfold cStep; rw [if_pos ho]
      have ho' : (y : Int) % 2 = 1 := by omega
      clear ho
      go_wp2
      go_round
      case rel => exact ⟨j + 1, by omega, by go_num, by rw [HS.out]; exact ret_u32 HF.out⟩
      case measure => simp [intOf]; omega
     ·have HF : Hid (((y : Int) / 2) = ((cStep y : Nat) : Int)) := by show _ = _; unfold cStep; rw [if_neg ho]; omega
      have ho' : (y : Int) % 2 = 0 := by omega
      clear ho
      go_wp2
      go_round
      case rel => exact ⟨j + 1, by omega, by go_num, by rw [HS.out]; exact ret_u32 HF.out⟩
      case measure => simp [intOf]; omega
    ·have hj8 : j = 8 := by omega
     subst hj8
     have HE : Hid (y = addB x p[k]) := by show _ = _; rw [<- HY.out]; rfl
     go_wp2
     go_round
     case rel => exact ⟨k + 1, by omega, by go_num, by rw [HJ.out, HE.out]⟩
     case measure => simp [intOf]; omega
  ·have HE : Hid (bits .xor .u32 (x : Int) 4294967295 = ((crcL p.data.toList : Nat) : Int)) := by
    show _ = _
    rw [show (4294967295 : Int) = ((4294967295 : Nat) : Int) from rfl, u32_xor_nat _ _ hxl (by omega), <- HX.out, List.take_of_length_le (by simp; omega)]; rfl
   go_wp2
   go_ret
   exact ⟨by rw [<- HE.out]; rfl, rfl⟩
end Go.Proofs.YthambopnmhkeeaaGreat.Fr
/- The acts of the statements of layer 7: how they lie in memory. -/
set_option maxRecDepth 100000
namespace Go.Proofs.YthambopnmhkeeaaGreat
open Go.RowKit
structure Act7 where
 op : Int
 at_ : Int
 n : Int
 keep : List Bool
 kao : Option Addr
 kcap : Nat
 b : Int
abbrev Act7.agg (a : Act7) : Value := .agg #[.int .i64 a.op, .int .i64 a.at_, .int .i64 a.n, .slice a.kao a.keep.length a.kcap, .int .u8 a.b]
def Act7.cells (a : Act7) : List Value := [.int .i64 a.op, .int .i64 a.at_, .int .i64 a.n, .slice a.kao a.keep.length a.kcap, .int .u8 a.b]
structure Act7.Ok (w0 : World) (a : Act7) : Prop where
 op0 : -9223372036854775808 <= a.op /\ a.op <= 9223372036854775807
 at0 : -9223372036854775808 <= a.at_ /\ a.at_ <= 9223372036854775807
 n0 : -9223372036854775808 <= a.n /\ a.n <= 9223372036854775807
 klen : a.keep.length <= 9223372036854775807
 keeps : a.keep = [] \/ ∃ g off, a.kao = some ⟨g, off, none⟩ /\ g < w0.heap.size /\ ∀ i (h : i < a.keep.length), w0.cell? ⟨g, off + i, none⟩ = some (.bool a.keep[i])
def Acts7 (w0 : World) (v : Value) (L : List Act7) : Prop :=
 (∀ a ∈ L, a.Ok w0) /\ L.length <= 9223372036854775807 /\ ∃ ao cap, v = .slice ao L.length cap /\
  ∀ i (h : i < L.length), ∃ g off, ao = some ⟨g, off, none⟩ /\ g < w0.heap.size /\ ∀ j u, (L[i]).cells[j]? = some u -> w0.cell? ⟨g, off + i * 5 + j, none⟩ = some u
def small7 (L : List Act7) : Bool := decide (L.length <= 80 /\ ∀ a ∈ L, a.keep.length <= 200)
section
variable {w0 w : World} {v : Value} {L : List Act7}
theorem Acts7.cell (h : Acts7 w0 v L) (hb : Below w0.heap.size w0 w) (i : Nat) (hi : i < L.length) :
  ∃ g off cap, v = .slice (some ⟨g, off, none⟩) L.length cap /\ w.cell? ⟨g, off + i * 5, none⟩ = some (.int .i64 L[i].op) /\ w.cell? ⟨g, off + i * 5 + 1, none⟩ = some (.int .i64 L[i].at_) /\ w.cell? ⟨g, off + i * 5 + 2, none⟩ = some (.int .i64 L[i].n) /\
   w.cell? ⟨g, off + i * 5 + 3, none⟩ = some (.slice L[i].kao L[i].keep.length L[i].kcap) /\ w.cell? ⟨g, off + i * 5 + 4, none⟩ = some (.int .u8 L[i].b) := by
 obtain ⟨_, _, ao, cap, rfl, hc⟩ := h
 obtain ⟨g, off, rfl, hg, hc⟩ := hc i hi
 have hk : ∀ o, w.cell? ⟨g, o, none⟩ = w0.cell? ⟨g, o, none⟩ := fun o => hb.cell (p := ⟨g, o, none⟩) hg
 exact ⟨g, off, cap, rfl, (hk _).trans (hc 0 _ rfl), (hk _).trans (hc 1 _ rfl), (hk _).trans (hc 2 _ rfl), (hk _).trans (hc 3 _ rfl), (hk _).trans (hc 4 _ rfl)⟩
theorem take_snoc7 {α : Type} (L : List α) (k : Nat) (h : k < L.length) : L.take (k + 1) = L.take k ++ [L[k]] := by
 rw [List.take_succ_eq_append_getElem h]
set_option maxHeartbeats 2000000 in
theorem small7_any (h : Acts7 w0 v L) (hb : Below w0.heap.size w0 w) :
  Calls Tryz.prog 11 #[v] w fun e w' => e = .returned (.bool (small7 L)) /\ w = w' := by
 obtain ⟨ao, cap, hv⟩ : ∃ ao cap, v = .slice ao L.length cap := by obtain ⟨_, _, ao, cap, hv, _⟩ := h; exact ⟨ao, cap, hv⟩
 have hlen := h.2.1
 by_cases hl : 80 < L.length
 ·have HS : Hid (small7 L = false) := by
   show small7 L = false; unfold small7; simp only [decide_eq_false_iff_not]; omega
  subst hv
  clear h
  generalize L.length = n at *
  go_enter Tryz.func11, Tryz.ntmps11
  go_wp2
  go_ret
  exact ⟨by rw [HS.out]; rfl, rfl⟩
 ·have HL := Lib.hid hv
  have hl' : L.length <= 80 := by omega
  have HA := Lib.hid h; have HB := Lib.hid hb
  clear h hb hl
  obtain ⟨n, hn⟩ : ∃ n, L.length = n := ⟨_, rfl⟩
  have HN := Lib.hid hn
  rw [hn] at hlen hl' hv
  clear hn
  subst hv
  go_enter Tryz.func11, Tryz.ntmps11
  go_wp2_with fail
  go_loop [3] (fun i => ∃ k : Nat, k <= n /\ i = .int .i64 k /\ Hid (∀ a ∈ L.take k, a.keep.length <= 200)) (fun i => n - (intOf i).toNat)
  case atStart => exact ⟨0, Nat.zero_le _, rfl, fun a ha => by simp at ha⟩
  case round =>
   obtain ⟨k, hk, rfl, HP⟩ := hrel
   by_cases hlt : k < n
   ·have hkL : k < L.length := by rw [HN.out]; exact hlt
    obtain ⟨g, off, cap', hv, c0, c1, c2, c3, c4⟩ := HA.out.cell HB.out k hkL
    obtain ⟨rfl, _, rfl⟩ : ao = some ⟨g, off, none⟩ /\ n = L.length /\ cap = cap' := by simpa using hv
    have HT := Lib.hid (take_snoc7 L k hkL)
    have HM : Hid (L[k] ∈ L) := List.getElem_mem hkL
    have hka := (HA.out.1 L[k] (List.getElem_mem hkL)).klen
    clear hv c0 c1 c2
    generalize L[k] = a at *
    by_cases h2 : a.keep.length <= 200
    ·go_wp2
     go_round
     case rel =>
      refine ⟨k + 1, by omega, by go_num, fun b hb => ?_⟩
      rw [HT.out, List.mem_append, List.mem_singleton] at hb
      rcases hb with hb | rfl
      ·exact HP.out b hb
      ·exact h2
     case measure => simp [intOf]; omega
    ·have HS : Hid (small7 L = false) := by
      show small7 L = false; unfold small7; simp only [decide_eq_false_iff_not]
      intro hh; exact h2 (hh.2 a HM.out)
     go_wp2
     go_ret
     exact ⟨by rw [HS.out]; rfl, rfl⟩
   ·have HS : Hid (small7 L = true) := by
     show small7 L = true; unfold small7; simp only [decide_eq_true_eq]
     refine ⟨by rw [HN.out]; exact hl', fun a ha => HP.out a ?_⟩
     rw [List.take_of_length_le (by rw [HN.out]; omega)]; exact ha
    go_wp2
    go_ret
    exact ⟨by rw [HS.out]; rfl, rfl⟩
end
end Go.Proofs.YthambopnmhkeeaaGreat
