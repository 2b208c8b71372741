/- What block.New answers, for every number: a new device of so many empty blocks, or ErrRange and nil; nothing that was there is changed. -/
import Derived.Test.YthambopnmhkeeaaGreatZShelf
import Derived.Test.YthambopnmhkeeaaGreatZCalls2
import Derived.Lib.Hide
import Derived.Laws.CopyOwn
import Derived.Deep.RegionLaw
import Derived.Test.YthambopnmhkeeaaGreatZSettle
import Derived.Test.YthambopnmhkeeaaGreatZWFix

set_option maxRecDepth 100000
namespace Go.Proofs.YthambopnmhkeeaaGreat
open Go.RowKit
def fillS (s : ByteArray) (n k : Nat) : List Value := List.replicate k (Value.string s) ++ List.replicate (n - k) (Value.string ⟨#[]⟩)
theorem fillS_length (s : ByteArray) (n k : Nat) (h : k <= n) : (fillS s n k).length = n := by simp [fillS]; omega
theorem fillS_splice (s : ByteArray) (n k m : Nat) : splice (fillS s n k) k (List.replicate m (Value.string s)) = fillS s n (k + m) := by
 unfold splice fillS
 rw [List.take_left' (by simp), List.length_replicate, List.drop_append]
 simp only [List.drop_replicate, List.length_replicate]
 rw [show k - (k + m) = 0 from by omega, show k + m - k = m from by omega, show n - k - m = n - (k + m) from by omega, List.replicate_zero, List.nil_append, <- List.append_assoc, List.replicate_append_replicate]
theorem fillS_get (s : ByteArray) (n k j : Nat) (h : j < k) : (fillS s n k)[j]? = some (.string s) := by
 unfold fillS
 rw [List.getElem?_append_left (by simpa using h)]
 simp [h]
theorem fillS_zero (s : ByteArray) (n : Nat) : fillS s n 0 = List.replicate n (Value.string ⟨#[]⟩) := by simp [fillS]
theorem fillS_all (s : ByteArray) (n : Nat) : fillS s n n = List.replicate n (Value.string s) := by simp [fillS]
theorem _root_.Go.Proofs.Tryz.infoS : (Tryz.prog.info? 9).map (fun i => (i.zero, i.size, i.bytes)) = some (some (.string ⟨#[]⟩), 1, 16) := by kernel_rfl
theorem sizeS : (Tryz.prog.info? 9).map (·.size) = some 1 := by kernel_rfl
theorem mul_one_any (n : Nat) (hn : n <= 4096) (w : World) :
  Calls Tryz.prog 114 #[.int .u64 1, .int .u64 n] w fun e w' => e = .returned (.tuple #[.int .u64 0, .int .u64 n]) /\ w = w' := by
 have h := Tryz.bits_Mul 1 n (by omega) (by omega) w
 have e1 : 1 * n / 18446744073709551616 = 0 := by omega
 have e2 : 1 * n % 18446744073709551616 = n := by omega
 rw [e1, e2] at h
 exact h.mono fun e w' ⟨he, hw⟩ => ⟨he, hw.symm⟩
theorem own_full {w : World} {B e g n : Nat} {xs : List Value} (h : w.ownsRow B e 1 (.slice (some ⟨g, 0, none⟩) n n) n xs) : w.heap[g]? = some (.cells xs.toArray e (0, 0)) := by
 rcases h.2 with ⟨h0, _⟩ | ⟨g', cap, cur, hv, hb, hg, hnc, hcm, hcs, htk⟩
 ·cases h0
 ·cases hv
  have e : cur.toList = xs := by rw [<- htk]; exact (List.take_of_length_le (by simp [hcs])).symm
  rw [hg, <- e]
set_option maxHeartbeats 2000000 in
theorem slRepeat_any (s : ByteArray) (n b c : Nat) (w : World) (h1 : 1 <= n) (hn : n <= 4096) (hc : w.cell? ⟨b, 0, none⟩ = some (.string s)) :
  Calls Tryz.prog 67 #[.slice (some ⟨b, 0, none⟩) 1 c, .int .i64 n] w fun e w' => e = .returned (.slice (some ⟨w.heap.size, 0, none⟩) n n) /\
   w'.heap[w.heap.size]? = some (.cells (List.replicate n (Value.string s)).toArray 9 (0, 0)) /\ Below w.heap.size w w' := by
 have hbl : b < w.heap.size := World.block_lt_of_cell? w _ hc
 obtain ⟨i0, hi, hz0, hz1, hz2⟩ := info_parts Tryz.infoS
 have HZ2 := Lib.hid hz2; clear hz2
 go_enter Tryz.func67, Tryz.ntmps67
 go_wp2_with fail
 refine (mul_one_any n hn _).mono ?_
 rintro e w' ⟨rfl, rfl⟩
 go_wp2_with (at_make; refine wpList_make_full _ rfl _ _ 47 rfl w.heap.size 9 i0 (.string ⟨#[]⟩) 1 Tryz.underlying47 hi hz0 hz1 _ _ _ _ n rfl rfl rfl rfl (by rw [HZ2.out]; omega) (by unfold maxLen; omega) (Nat.le_refl _) ?_)
 intro w1 hown hgrow
 have HB : Hid (Below w.heap.size w w1) := (Below.refl _ _).grown hgrow (Nat.le_refl _) (fun k h => by cases h)
 have HR : Hid (w1.heap[w.heap.size]? = some (.cells (fillS s n 0).toArray 9 (0, 0))) := by
  rw [toList_madeCells_one] at hown
  rw [fillS_zero]
  exact own_full hown
 have hc1 : w1.cell? ⟨b, 0, none⟩ = some (.string s) := by rw [HB.out.cell (p := ⟨b, 0, none⟩) hbl]; exact hc
 clear hown hgrow hc
 obtain ⟨g, hg⟩ : ∃ g, w.heap.size = g := ⟨_, rfl⟩
 rw [hg] at HR HB hbl ⊢
 have HG := Lib.hid hg; clear hg
 obtain ⟨F, hF⟩ : ∃ F, F = fillS s n := ⟨_, rfl⟩
 have HFl : Hid (∀ k, k <= n -> (F k).length = n) := by intro k hk; rw [hF]; exact fillS_length s n k hk
 have HFs : Hid (∀ k m, k + m <= n -> splice (F k) k (List.replicate m (Value.string s)) = F (k + m)) := by intro k m _; rw [hF]; exact fillS_splice s n k m
 have HFg : Hid (∀ k j, j < k -> (F k)[j]? = some (.string s)) := by intro k j hk; rw [hF]; exact fillS_get s n k j hk
 have HFn : Hid (F n = List.replicate n (Value.string s)) := by rw [hF]; exact fillS_all s n
 rw [<- hF] at HR
 clear hF
 go_wp2_with (refine wpList_copy_splice (o := ⟨some 33, _, _, _, _, _⟩) rfl (.tmp 31) (.tmp 32) 47 47 rfl 9 Tryz.underlying47 sizeS _ _ _ _ _ _ rfl rfl g 0 (F 0) 9 HR.out [.string s] (by show 1 = min 1 n; omega) (fun _ => ⟨rfl, _, rfl, fun j v hj => by match j, hj with | 0, hj => simp at hj; subst hj; simpa [Addr.add] using hc1⟩) (by rw [HFl.out 0 (Nat.zero_le _)]; simp; omega) (fun v hv => by simp at hv; subst hv; rfl) g w HB.out (Nat.le_refl _) ?_)
 intro w2 hr2 hb2
 have HR2 : Hid (w2.heap[g]? = some (.cells (F 1).toArray 9 (0, 0))) := by
  have := HFs.out 0 1 (by omega)
  rw [List.replicate_one, Nat.zero_add] at this
  rw [<- this]
  exact hr2.out
 have HB2 := Lib.hid hb2
 clear hr2 hb2 hc1
 go_wp2_with fail
 generalize Value.bool (decide ((9223372036854775807 : Int) < (n : Int))) = vb
 generalize Value.bool (decide ((n : Int) < 0)) = vb2
 go_loopw [8] (fun i wr => ∃ k : Nat, 1 <= k /\ k <= n /\ i = .int .i64 k /\ Hid (wr.heap[g]? = some (.cells (F k).toArray 9 (0, 0))) /\ Hid (Below g w wr)) (fun i _ => n - (intOf i).toNat)
 case atStart => exact ⟨1, Nat.le_refl _, h1, rfl, HR2, HB2⟩
 case round =>
  clear HR HB HR2 HB2
  obtain ⟨k, hk1, hk, rfl, HR, HB⟩ := hrel
  by_cases hlt : k < n
  ·have hkz : (k : Int) < (n : Int) := by omega
   have hne : ¬ n = k := by omega
   obtain ⟨m, hm⟩ : ∃ m, m = Nat.min k (n - k) := ⟨_, rfl⟩
   have hm1 : m <= k := by rw [hm]; exact Nat.min_le_left _ _
   have hm2 : m + k <= n := by have : m <= n - k := by { rw [hm]; exact Nat.min_le_right _ _ }
                               omega
   have hm3 : 1 <= m := by rw [hm]; exact Nat.le_min.2 ⟨hk1, by omega⟩
   have HM := Lib.hid hm; clear hm
   have HCS : Hid (∀ j v, (List.replicate m (Value.string s))[j]? = some v -> wr.drew.cell? ((⟨g, 0, none⟩ : Addr).add j) = some v) := by
    intro j v hj
    have hj' : j < m := by simpa using (List.getElem?_eq_some_iff.1 hj).1
    have hv : v = .string s := by simp [hj'] at hj; exact hj.symm
    subst hv
    have hadd : (⟨g, 0, none⟩ : Addr).add j = ⟨g, j, none⟩ := by unfold Addr.add; split <;> simp_all
    have hR : wr.drew.heap[g]? = some (.cells (F k).toArray 9 (0, 0)) := HR.out
    rw [hadd, cell_at hR]
    simpa using HFg.out k j (by omega)
   have hlen : k + (List.replicate m (Value.string s)).length <= (F k).length := by rw [HFl.out k hk, List.length_replicate]; omega
   have HLen := Lib.hid hlen; clear hlen
   have hwk : IntKind.i64.wrap ((k : Int) + (m : Int)) = (k : Int) + (m : Int) := IntWalk.i64_in _ (by omega)
   go_wp2
   go_region_law (refine step_copy_splice rfl (.tmp 41) (.tmp 44) 47 47 rfl 9 Tryz.underlying47 sizeS (some ⟨g, k, none⟩) (some ⟨g, 0, none⟩) (n - k) (n - k) k n (by kernel_rfl) (by kernel_rfl) g k (F k) 9 HR.out (List.replicate m (Value.string s)) (by rw [List.length_replicate]; exact HM.out) (fun _ => ⟨rfl, _, rfl, HCS.out⟩) HLen.out (fun v hv => by rw [List.eq_of_mem_replicate hv]; rfl) g w HB.out.drew (Nat.le_refl _) ?_; intro w3 hr3 hb3)
   simp only [Act.put, List.getElem_toArray, List.getElem_cons_succ, List.getElem_cons_zero, List.setIfInBounds_toArray, List.set_cons_succ, List.set_cons_zero]
   go_wp2
   go_roundw
   case rel =>
    refine ⟨k + m, by omega, by omega, by go_num, ?_, hb3⟩
    have := HFs.out k m (by omega)
    rw [<- this]; exact hr3
   case measure => simp [intOf]; omega
  ·have hkn : k = n := by omega
   subst hkn
   go_wp2
   go_ret
   exact ⟨by rw [HG.out]; rfl, by rw [HG.out, <- HFn.out]; exact HR.out, by rw [HG.out]; exact HB.out⟩
theorem size_alloc (w : World) (o : Obj) : (w.alloc o).heap.size = w.heap.size + 1 := by simp
def noughts : ByteArray := ⟨(Lib.repeatL [0] 256).toArray⟩
def DevS.made (n : Nat) : DevS := ⟨List.replicate n noughts, [], false, 0, false⟩
theorem noughts_size : noughts.size = 256 := by decide +kernel
theorem DevS.made_ok (n : Nat) (h1 : 1 <= n) (h2 : n <= 4096) : (DevS.made n).Ok :=
 ⟨by simpa [DevS.made] using h1, by simpa [DevS.made] using h2, fun s hs => by rw [List.eq_of_mem_replicate hs]; exact noughts_size, (fun x h => by cases h), Int.le_refl _, by simp [DevS.made]⟩
theorem noughts_any (w : World) : Calls Tryz.prog 66 #[.string ⟨#[0]⟩, .int .i64 256] w fun e w' => e = .returned (.string noughts) /\ Below w.heap.size w w' :=
 Tryz.strings_Repeat_main ⟨#[0]⟩ 256 w (by omega) (by omega) (by decide) (by decide)
def Fresh (w w' : World) (p : Nat) (D : DevS) : Prop := ∃ S : Nat -> Prop, (∀ k, S k -> w.heap.size <= k) /\ Stands S w' p D /\ Below w.heap.size w w'
set_option maxHeartbeats 1000000 in
theorem new_yes (n : Nat) (w : World) (h1 : 1 <= n) (h2 : n <= 4096) :
  Calls Tryz.prog 24 #[.int .i64 n] w fun e w' => ∃ p, e = .returned (.tuple #[.pointer (some ⟨p, 0, none⟩), .int .i64 0]) /\ Fresh w w' p (DevS.made n) := by
 have h1' : ¬ ((n : Int) < 1) := by omega
 have h2' : ¬ (4096 : Int) < (n : Int) := by omega
 go_enter Tryz.func24, Tryz.ntmps24
 go_wp2_with fail
 refine (noughts_any _).mono ?_
 rintro e w1 ⟨rfl, hb1⟩
 have HB1 := Lib.hid hb1; clear hb1
 have cR := slRepeat_any noughts n w1.heap.size 1 (w1.alloc (.cells #[.string noughts] 9)) h1 h2 (by simp)
 have HR := Lib.hid cR; clear cR
 obtain ⟨N, hN⟩ : ∃ N, noughts = N := ⟨_, rfl⟩
 rw [hN] at HR ⊢
 have HN := Lib.hid hN; clear hN
 go_wp2_with fail
 refine HR.out.mono ?_
 rintro e w2 ⟨rfl, hr2, hb2⟩
 have HR2 := Lib.hid hr2; clear hr2
 have HB2 := Lib.hid hb2; clear hb2
 have hz1 := HB1.out.size
 have hz2 := HB2.out.size
 have hr2' := HR2.out
 simp only [size_alloc] at hz2 hr2'
 have hlt2 : w1.heap.size + 1 < w2.heap.size := (Array.getElem?_eq_some_iff.1 hr2').1
 have HR3 := Lib.hid hr2'; clear hr2'
 go_wp2
 go_ret2
 refine ⟨w2.heap.size, rfl, fun k => k = w2.heap.size \/ k = w1.heap.size + 1, ?_, ⟨w1.heap.size + 1, .slice none 0 0, DevS.made_ok n h1 h2, ?_, ?_, World.ownsRow_nil _ _ _ _, by omega, by simp [Value.ownBlock], by simp [Value.ownBlock], .inl rfl, .inr rfl, fun k hk => by simp [Value.ownBlock] at hk, ?_⟩, ?_⟩
 ·rintro k (rfl | rfl) <;> omega
 ·rw [heap_alloc_new]; simp [DevS.made]
 ·rw [Below.heap_alloc _ _ _ (by omega)]
  rw [HR3.out]; simp [DevS.made, HN.out]
 ·rintro k (rfl | rfl) <;> simp <;> omega
 ·exact ((HB1.out.trans ((Below.refl _ _).alloc hz1 _)).trans (HB2.out.mono (by simp; omega))).alloc (by omega) _
theorem new_any (n : Int) (w : World) (h : 1 <= n /\ n <= 4096) :
  Calls Tryz.prog 24 #[.int .i64 n] w fun e w' => ∃ p, e = .returned (.tuple #[.pointer (some ⟨p, 0, none⟩), .int .i64 0]) /\ Fresh w w' p (DevS.made n.toNat) := by
 obtain ⟨m, rfl⟩ := Int.eq_ofNat_of_zero_le (show 0 <= n by omega)
 exact new_yes m w (by omega) (by omega)
section
variable {S : Nat -> Prop} {w : World} {p q : Nat} {pv : Value} {D : DevS}
theorem Dev.cq' (d : Dev S w p q pv D) (b : Nat) (hb : b < D.disk.length) : w.cell? ⟨q, b, none⟩ = some (.string (D.disk.getD b ByteArray.empty)) := by
 rw [cell_at d.hq]; simp [hb]
set_option maxHeartbeats 1000000 in
theorem disk_any (d : Stands S w p D) :
  Calls Tryz.prog 20 #[.pointer (some ⟨p, 0, none⟩)] w fun e w' => ∃ v, e = .returned v /\ w'.ownsRow w.heap.size 9 1 v D.disk.length (D.disk.map Value.string) /\ Below w.heap.size w w' := by
 obtain ⟨q, pv, d⟩ := d
 have c0 := d.c0
 have hc := Tryz.slices_Clone_string q 0 D.disk.length D.disk.length D.disk w (Nat.le_refl _) (by have := d.ok.few; omega) (fun j hj => by rw [Nat.zero_add]; exact d.cq' j hj)
 rw [List.take_length] at hc
 have HC := Lib.hid hc
 clear hc d
 go_enter Tryz.func20, Tryz.ntmps20
 go_wp2_with fail
 refine HC.out.mono ?_
 rintro e w1 ⟨v, rfl, hown, _, hb⟩
 have HO := Lib.hid hown; clear hown
 have HB := Lib.hid hb; clear hb
 go_wp2
 go_ret
 exact ⟨v, rfl, HO.out, HB.out⟩
end
end Go.Proofs.YthambopnmhkeeaaGreat
/- The device's methods over one device of the call's own: what was there when the call began is never touched. -/
namespace Go.Proofs.YthambopnmhkeeaaGreat
open Go.RowKit
def At (w0 w : World) (p : Nat) (D : DevS) : Prop := ∃ S : Nat -> Prop, (∀ k, S k -> w0.heap.size <= k) /\ Stands S w p D /\ Below w0.heap.size w0 w
section
variable {w0 w w' : World} {p : Nat} {D : DevS}
theorem At.bel (h : At w0 w p D) : Below w0.heap.size w0 w := by obtain ⟨S, _, _, hb⟩ := h; exact hb
theorem At.ok (h : At w0 w p D) : D.Ok := by obtain ⟨S, _, hs, _⟩ := h; exact hs.ok
theorem At.below (h : At w0 w p D) (hb : Below w.heap.size w w') : At w0 w' p D := by
 obtain ⟨S, hS, hs, h0⟩ := h
 exact ⟨S, hS, hs.below hb, h0.trans (hb.mono h0.size)⟩
theorem At.of_fresh {w0 w w' : World} (hb : Below w0.heap.size w0 w) (h : Fresh w w' p D) : At w0 w' p D := by
 obtain ⟨S, hS, hs, hb'⟩ := h
 exact ⟨S, fun k hk => Nat.le_trans hb.size (hS k hk), hs, hb.trans (hb'.mono hb.size)⟩
theorem At.leaves {S : Nat -> Prop} {D' : DevS} (hS : ∀ k, S k -> w0.heap.size <= k) (h0 : Below w0.heap.size w0 w) (h : Leaves S w w' p D') : At w0 w' p D' := by
 obtain ⟨S', hS', hs, ho⟩ := h
 refine ⟨S', fun k hk => ?_, hs, h0.trans (ho.below h0.size (fun k _ hk => hS k hk))⟩
 rcases hS' k hk with h | h
 ·exact hS k h
 ·exact Nat.le_trans h0.size h
theorem At.new (n : Int) (h : 1 <= n /\ n <= 4096) (hb : Below w0.heap.size w0 w) :
  Calls Tryz.prog 24 #[.int .i64 n] w fun e w' => ∃ p, e = .returned (.tuple #[.pointer (some ⟨p, 0, none⟩), .int .i64 0]) /\ At w0 w' p (DevS.made n.toNat) :=
 (new_any n w h).mono fun _ _ ⟨p, he, hf⟩ => ⟨p, he, .of_fresh hb hf⟩
theorem At.read (i : Int) (hl : D.pend.length <= 1000000) (h : At w0 w p D) :
  Calls Tryz.prog 147 #[.pointer (some ⟨p, 0, none⟩), .int .i64 i] w fun e w' => e = .returned (.tuple #[.string (D.rd i).1, .int .i64 (D.rd i).2]) /\ At w0 w' p D := by
 have h' := h
 obtain ⟨S, hS, hs, h0⟩ := h
 exact (read_any i hl hs).mono fun _ _ ⟨he, hb⟩ => ⟨he, h'.below hb⟩
theorem At.write (i : Int) (s : ByteArray) (hl : D.pend.length <= 1000000) (h : At w0 w p D) :
  Calls Tryz.prog 28 #[.pointer (some ⟨p, 0, none⟩), .int .i64 i, .string s] w fun e w' => e = .returned (.int .i64 (D.wr i s).1) /\ At w0 w' p (D.wr i s).2 := by
 obtain ⟨S, hS, hs, h0⟩ := h
 exact (write_any i s hl hs).mono fun _ _ ⟨he, hv⟩ => ⟨he, .leaves hS h0 hv⟩
theorem At.flush (hl : D.pend.length <= 1000000) (h : At w0 w p D) :
  Calls Tryz.prog 170 #[.pointer (some ⟨p, 0, none⟩)] w fun e w' => e = .returned (.int .i64 D.fl.1) /\ At w0 w' p D.fl.2 := by
 obtain ⟨S, hS, hs, h0⟩ := h
 exact (flush_any hl hs).mono fun _ _ ⟨he, h1, h2⟩ => ⟨he, .leaves hS h0 (.mk h1 h2)⟩
theorem At.fuse (n : Int) (hn : n <= 9223372036854775807) (h : At w0 w p D) :
  Calls Tryz.prog 34 #[.pointer (some ⟨p, 0, none⟩), .int .i64 n] w fun e w' => e = .returned (.tuple #[]) /\ At w0 w' p (D.setFuse n) := by
 obtain ⟨S, hS, hs, h0⟩ := h
 exact (fuse_any n hn hs).mono fun _ _ ⟨he, h1, h2⟩ => ⟨he, .leaves hS h0 (.mk h1 h2)⟩
def BoolsOut (w0 w : World) (v : Value) (kl : List Bool) : Prop :=
 ∃ ao cap, v = .slice ao kl.length cap /\ (kl = [] \/ ∃ g off, ao = some ⟨g, off, none⟩ /\ g < w0.heap.size /\ ∀ i (h : i < kl.length), w.cell? ⟨g, off + i, none⟩ = some (.bool kl[i]))
theorem At.crash (kl : List Bool) (torn cut : Int) (v : Value) (hl : D.pend.length <= 1000000) (hkl : kl.length <= 9223372036854775807) (h : At w0 w p D) (hv : BoolsOut w0 w v kl) :
  Calls Tryz.prog 36 #[.pointer (some ⟨p, 0, none⟩), v, .int .i64 torn, .int .i64 cut] w fun e w' => e = .returned (.tuple #[]) /\ At w0 w' p (D.crash kl torn cut) := by
 obtain ⟨S, hS, hs, h0⟩ := h
 have hv' : Bools S w v kl := by
  obtain ⟨ao, cap, hv, h⟩ := hv
  refine ⟨ao, cap, hv, ?_⟩
  rcases h with h | ⟨g, off, ha, hg, hc⟩
  ·exact .inl h
  ·exact .inr ⟨g, off, ha, fun hs => by have := hS g hs; omega, hc⟩
 exact (crash_any kl torn cut v hl hkl hs hv').mono fun _ _ ⟨he, h1, h2⟩ => ⟨he, .leaves hS h0 (.mk h1 h2)⟩
theorem At.dead (h : At w0 w p D) :
  Calls Tryz.prog 16 #[.pointer (some ⟨p, 0, none⟩)] w fun e w' => e = .returned (.bool D.dead) /\ w = w' := by
 obtain ⟨S, hS, hs, h0⟩ := h; exact dead_any hs
theorem At.blocks (h : At w0 w p D) :
  Calls Tryz.prog 58 #[.pointer (some ⟨p, 0, none⟩)] w fun e w' => e = .returned (.int .i64 D.disk.length) /\ w = w' := by
 obtain ⟨S, hS, hs, h0⟩ := h; exact blocks_any hs
theorem At.disk (h : At w0 w p D) :
  Calls Tryz.prog 20 #[.pointer (some ⟨p, 0, none⟩)] w fun e w' => ∃ v, e = .returned v /\ w'.ownsRow w.heap.size 9 1 v D.disk.length (D.disk.map Value.string) /\ Below w.heap.size w w' /\ At w0 w' p D := by
 have h' := h
 obtain ⟨S, hS, hs, h0⟩ := h
 exact (disk_any hs).mono fun _ _ ⟨v, he, h1, h2⟩ => ⟨v, he, h1, h2, h'.below h2⟩
end
end Go.Proofs.YthambopnmhkeeaaGreat
/- Journals in plain numbers and lists: what a slot is, what Format, Open, Commit and Checkpoint do with a device; nothing of the program is walked here. -/
namespace Go.Proofs.YthambopnmhkeeaaGreat
open Go.RowKit
open Fr (bs fixL nmAt packL chkL chk unp hd)
structure JS where
 e : Nat
 s : Nat
 log : Nat
 p : Nat
 side : Nat
 next : Nat
 full : Nat
structure JS.Ok (J : JS) (n : Nat) : Prop where
 l0 : 50 <= J.log
 l1 : J.log + 3 <= n
 pl : J.p < J.log
 si : J.side <= 1
 fu : J.full <= J.log
 e64 : J.e < 18446744073709551616
 s64 : J.s < 18446744073709551616
 n64 : J.next < 18446744073709551616
def JS.pos (J : JS) (i : Nat) : Nat := 2 + (J.p + J.full + i) % J.log
def JS.home (J : JS) : Nat := 2 + J.log
def JS.left (J : JS) : Nat := J.log - J.full
def JS.grow (J : JS) (n : Nat) : JS := { J with next := (J.next + 1) % 18446744073709551616, full := J.full + n }
def halfL (e s log p : Nat) : List UInt8 := [67, 68, 88, 83] ++ (fixL (e % 4294967296) ++ (fixL (e / 4294967296) ++ (fixL (s % 4294967296) ++ (fixL (s / 4294967296) ++ (fixL log ++ (fixL p ++ List.replicate 100 0))))))
def slotB (e s log p : Nat) : ByteArray := bs (halfL e s log p ++ halfL e s log p)
theorem halfL_len (e s log p : Nat) : (halfL e s log p).length = 128 := by
 unfold halfL; simp only [List.length_append, Fr.fixL_len, List.length_replicate, List.length_cons, List.length_nil]
theorem slotB_size (e s log p : Nat) : (slotB e s log p).size = 256 := by
 unfold slotB; rw [Fr.bs_len, List.length_append, halfL_len]
def wideAt (l : List UInt8) (i : Nat) : Nat := nmAt l i + 4294967296 * nmAt l (i + 4)
def rdSlot (t : ByteArray) (n : Nat) : Option (Nat × Nat × Nat × Nat) :=
 let l := t.data.toList
 if 50 <= nmAt l 20 /\ nmAt l 20 + 3 <= n /\ nmAt l 24 < nmAt l 20 /\ t = slotB (wideAt l 4) (wideAt l 12) (nmAt l 20) (nmAt l 24) then some (wideAt l 4, wideAt l 12, nmAt l 20, nmAt l 24) else none
def DevS.wrs (D : DevS) : List (Int × ByteArray) -> Int × DevS
 | [] => (0, D)
 | x :: r => if (D.wr x.1 x.2).1 ≠ 0 then D.wr x.1 x.2 else DevS.wrs (D.wr x.1 x.2).2 r
def DevS.stl (D : DevS) (l : List (Int × ByteArray)) : Int × DevS := if (D.wrs l).1 ≠ 0 then D.wrs l else (D.wrs l).2.fl
theorem DevS.wrs_snoc (D : DevS) (l : List (Int × ByteArray)) (x : Int × ByteArray) (h : (D.wrs l).1 = 0) : D.wrs (l ++ [x]) = (D.wrs l).2.wr x.1 x.2 := by
 induction l generalizing D with
 | nil =>
  show DevS.wrs D [x] = _
  unfold DevS.wrs
  split
  ·rfl
  ·rename_i h2
   have e : (D.wr x.1 x.2).1 = 0 := by omega
   show (0, _) = D.wr x.1 x.2
   exact Prod.ext e.symm rfl
 | cons y r ih =>
  rw [List.cons_append]
  unfold DevS.wrs at h ⊢
  split at h
  ·rename_i h2; exact absurd h h2
  ·rename_i h2; rw [if_neg h2, if_neg h2]; exact ih _ h
theorem DevS.wrs_err (D : DevS) (l m : List (Int × ByteArray)) (h : (D.wrs l).1 ≠ 0) : D.wrs (l ++ m) = D.wrs l := by
 induction l generalizing D with
 | nil => exact absurd rfl h
 | cons y r ih =>
  rw [List.cons_append]
  unfold DevS.wrs at h ⊢
  split at h
  ·rename_i h2; rw [if_pos h2, if_pos h2]
  ·rename_i h2; rw [if_neg h2, if_neg h2]; exact ih _ h
theorem DevS.wrs_append (D : DevS) (l m : List (Int × ByteArray)) (h : (D.wrs l).1 = 0) : D.wrs (l ++ m) = (D.wrs l).2.wrs m := by
 induction l generalizing D with
 | nil => rfl
 | cons y r ih =>
  rw [List.cons_append]
  unfold DevS.wrs at h
  conv => lhs; unfold DevS.wrs
  conv => rhs; arg 1; unfold DevS.wrs
  split at h
  ·rename_i h2; exact absurd h h2
  ·rename_i h2; rw [if_neg h2, if_neg h2]; exact ih _ h
theorem DevS.wr_len (D : DevS) (i : Int) (s : ByteArray) : (D.wr i s).2.pend.length <= D.pend.length + 1 := by
 unfold DevS.wr
 split
 ·exact Nat.le_succ _
 ·split
  ·exact Nat.le_succ _
  ·split
   ·rw [DevS.tk_pend]; exact Nat.le_succ _
   ·simp
theorem DevS.wrs_len (D : DevS) (l : List (Int × ByteArray)) : (D.wrs l).2.pend.length <= D.pend.length + l.length := by
 induction l generalizing D with
 | nil => exact Nat.le_refl _
 | cons x r ih =>
  have h := D.wr_len x.1 x.2
  unfold DevS.wrs
  split
  ·rw [List.length_cons]; omega
  ·have := ih (D.wr x.1 x.2).2; rw [List.length_cons]; omega
theorem DevS.fl_len (D : DevS) : D.fl.2.pend.length <= D.pend.length := by
 unfold DevS.fl
 split
 ·exact Nat.le_refl _
 ·split
  ·rw [DevS.tk_pend]; exact Nat.le_refl _
  ·exact Nat.zero_le _
theorem DevS.stl_len (D : DevS) (l : List (Int × ByteArray)) : (D.stl l).2.pend.length <= D.pend.length + l.length := by
 have h := D.wrs_len l
 have h2 := (D.wrs l).2.fl_len
 unfold DevS.stl
 split <;> omega
theorem DevS.wr_disk (D : DevS) (i : Int) (s : ByteArray) : (D.wr i s).2.disk = D.disk := by
 unfold DevS.wr
 split
 ·rfl
 ·split
  ·rfl
  ·split
   ·exact DevS.tk_disk D
   ·exact DevS.tk_disk D
theorem DevS.wrs_disk (D : DevS) (l : List (Int × ByteArray)) : (D.wrs l).2.disk = D.disk := by
 induction l generalizing D with
 | nil => rfl
 | cons x r ih =>
  unfold DevS.wrs
  split
  ·exact D.wr_disk _ _
  ·rw [ih, D.wr_disk]
theorem DevS.fl_disk (D : DevS) : D.fl.2.disk.length = D.disk.length := by
 unfold DevS.fl
 split
 ·rfl
 ·split
  ·rw [DevS.tk_disk]
  ·simp [laidTo_length]
theorem DevS.stl_disk (D : DevS) (l : List (Int × ByteArray)) : (D.stl l).2.disk.length = D.disk.length := by
 unfold DevS.stl
 split
 ·rw [D.wrs_disk]
 ·rw [DevS.fl_disk, D.wrs_disk]
theorem DevS.tk_dead (D : DevS) (h : D.tk.1 = true) : D.tk.2.dead = D.dead := by
 unfold DevS.tk at *
 split
 ·rfl
 ·split
  ·rename_i h1 h2; rw [if_neg h1, if_pos h2] at h; cases h
  ·rfl
theorem DevS.wr_live (D : DevS) (i : Int) (s : ByteArray) (h : (D.wr i s).1 = 0) : (D.wr i s).2.dead = false := by
 unfold DevS.wr at *
 split
 ·rename_i h1; rw [if_pos h1] at h; exact absurd h h1
 ·rename_i h1
  rw [if_neg h1] at h
  split
  ·rename_i h2; rw [if_pos h2] at h; cases h
  ·rename_i h2
   rw [if_neg h2] at h
   split
   ·rename_i h3; rw [if_pos h3] at h; cases h
   ·rename_i h3
    show D.tk.2.dead = false
    rw [D.tk_dead (by simpa using h3)]
    have h0 : D.ck i = 0 := by simpa using h1
    unfold DevS.ck at h0
    cases hd : D.dead with
    | false => rfl
    | true => rw [hd] at h0; simp at h0
theorem DevS.wrs_live (D : DevS) (l : List (Int × ByteArray)) (hd : D.dead = false) (h : (D.wrs l).1 = 0) : (D.wrs l).2.dead = false := by
 induction l generalizing D with
 | nil => exact hd
 | cons x r ih =>
  unfold DevS.wrs at h ⊢
  split
  ·rename_i h1; rw [if_pos h1] at h; exact absurd h h1
  ·rename_i h1; rw [if_neg h1] at h; exact ih _ (D.wr_live _ _ (by simpa using h1)) h
def JS.chk1 (J : JS) (n : Nat) (x : Int × ByteArray) : Nat := if x.1 < J.home \/ (n : Int) <= x.1 then 2 else if x.2.size ≠ 256 then 3 else 0
def JS.chkL (J : JS) (n : Nat) : List (Int × ByteArray) -> Nat
 | [] => 0
 | x :: l => if J.chk1 n x = 0 then JS.chkL J n l else J.chk1 n x
def JS.chk (J : JS) (n : Nat) (l : List (Int × ByteArray)) : Nat := if l.length = 0 \/ 48 < l.length then 6 else J.chkL n l
def JS.WrOk (J : JS) (n : Nat) (x : Int × ByteArray) : Prop := J.home <= x.1 /\ x.1 < n /\ x.2.size = 256
theorem JS.chk1_ok (J : JS) (n : Nat) (x : Int × ByteArray) : J.chk1 n x = 0 ↔ J.WrOk n x := by
 unfold JS.chk1 JS.WrOk
 by_cases h : x.1 < J.home \/ (n : Int) <= x.1
 ·rw [if_pos h]; constructor
  ·intro h2; omega
  ·intro h2; omega
 ·rw [if_neg h]
  by_cases h2 : x.2.size ≠ 256
  ·rw [if_pos h2]; constructor
   ·intro h2; omega
   ·intro h3; exact absurd h3.2.2 h2
  ·rw [if_neg h2]; constructor
   ·intro _; exact ⟨by omega, by omega, by omega⟩
   ·intro _; rfl
theorem JS.chkL_ok (J : JS) (n : Nat) (l : List (Int × ByteArray)) : J.chkL n l = 0 ↔ ∀ x ∈ l, J.WrOk n x := by
 induction l with
 | nil => simp [JS.chkL]
 | cons x l ih =>
  unfold JS.chkL
  by_cases h : J.chk1 n x = 0
  ·rw [if_pos h, ih]
   constructor
   ·intro h2 y hy
    rcases List.mem_cons.1 hy with rfl | hy
    ·exact (J.chk1_ok n _).1 h
    ·exact h2 y hy
   ·intro h2 y hy; exact h2 y (List.mem_cons_of_mem _ hy)
  ·rw [if_neg h]
   constructor
   ·intro h2; exact absurd h2 h
   ·intro h2; exact absurd ((J.chk1_ok n x).2 (h2 x (List.mem_cons_self ..))) h
theorem JS.chkL_drop (J : JS) (n : Nat) (l : List (Int × ByteArray)) (k : Nat) (h : k < l.length) (hk : J.chk1 n l[k] = 0) : J.chkL n (l.drop k) = J.chkL n (l.drop (k + 1)) := by
 rw [List.drop_eq_getElem_cons h]; show (if J.chk1 n l[k] = 0 then _ else _) = _; rw [if_pos hk]
theorem JS.chkL_at (J : JS) (n : Nat) (l : List (Int × ByteArray)) (k : Nat) (h : k < l.length) (hk : J.chk1 n l[k] ≠ 0) : J.chkL n (l.drop k) = J.chk1 n l[k] := by
 rw [List.drop_eq_getElem_cons h]; show (if J.chk1 n l[k] = 0 then _ else _) = _; rw [if_neg hk]
theorem JS.chk_ok (J : JS) (n : Nat) (l : List (Int × ByteArray)) : J.chk n l = 0 ↔ 1 <= l.length /\ l.length <= 48 /\ ∀ x ∈ l, J.WrOk n x := by
 unfold JS.chk
 by_cases h : l.length = 0 \/ 48 < l.length
 ·rw [if_pos h]; constructor
  ·intro h2; omega
  ·intro h2; omega
 ·rw [if_neg h, J.chkL_ok]; constructor
  ·intro h2; exact ⟨by omega, by omega, h2⟩
  ·intro h2; exact h2.2.2
def JS.next' (J : JS) : JS := ⟨(J.e + 1) % 18446744073709551616, J.next, J.log, J.pos 0 - 2, 1 - J.side, J.next, 0⟩
def JS.ckp (J : JS) (D : DevS) : Int × DevS × JS :=
 let a := D.stl [(((J.pos 0 : Nat) : Int), noughts)]
 if a.1 ≠ 0 then (a.1, a.2, J) else
 let b := a.2.stl [(((1 - J.side : Nat) : Int), slotB ((J.e + 1) % 18446744073709551616) J.next J.log (J.pos 0 - 2))]
 if b.1 ≠ 0 then (b.1, b.2, J) else (0, b.2, J.next')
def JS.dataW (J : JS) (ds : List ByteArray) : List (Int × ByteArray) := ((List.range ds.length).map fun i => (((J.pos (i + 1) : Nat) : Int), ds.getD i ByteArray.empty)) ++ [(((J.pos (ds.length + 1) : Nat) : Int), noughts)]
def JS.addF (J : JS) (D : DevS) (top : ByteArray) (ds : List ByteArray) : Int × DevS × JS :=
 let a := D.stl (J.dataW ds)
 if a.1 ≠ 0 then (a.1, a.2, J) else
 let b := a.2.stl [(((J.pos 0 : Nat) : Int), top)]
 if b.1 ≠ 0 then (b.1, b.2, J) else (0, b.2, J.grow (ds.length + 1))
def JS.commit (J : JS) (D : DevS) (l : List (Int × ByteArray)) : Int × DevS × JS :=
 if J.chk D.disk.length l ≠ 0 then (J.chk D.disk.length l, D, J) else
 let c := if J.left < l.length + 2 then J.ckp D else (0, D, J)
 if c.1 ≠ 0 then c else
 let a := c.2.2.addF c.2.1 (bs (Fr.topL J.next l)) (l.map (·.2))
 if a.1 ≠ 0 then a else ((a.2.1.wrs l).1, (a.2.1.wrs l).2, a.2.2)
def JS.frameAt (J : JS) (D : DevS) : List ByteArray := D.rdB (J.pos 0) :: (List.range (nmAt (D.rdB (J.pos 0)).data.toList 12)).map fun i => D.rdB (J.pos (i + 1))
def JS.frameOf (J : JS) (D : DevS) : Option (List (Int × ByteArray)) :=
 if Fr.headB (D.rdB (J.pos 0)).data.toList = true /\ nmAt (D.rdB (J.pos 0)).data.toList 12 + 1 <= J.left /\ (unp (J.frameAt D)).2.2 = 0 /\ (unp (J.frameAt D)).1 = J.next /\ J.chk D.disk.length (unp (J.frameAt D)).2.1 = 0
 then some (unp (J.frameAt D)).2.1 else none
def JS.redoN (J : JS) (D : DevS) : Nat -> Int × DevS × JS
 | 0 => (0, D, J)
 | m + 1 => match J.frameOf D with
  | none => (0, D, J)
  | some ws => if (D.wrs ws).1 ≠ 0 then ((D.wrs ws).1, (D.wrs ws).2, J.grow (ws.length + 1)) else JS.redoN (J.grow (ws.length + 1)) (D.wrs ws).2 m
def JS.redo (J : JS) (D : DevS) : Int × DevS × JS := J.redoN D (J.log + 1)
def slotJ (x : Nat × Nat × Nat × Nat) (i : Nat) : JS := ⟨x.1, x.2.1, x.2.2.1, x.2.2.2, i, x.2.1, 0⟩
def DevS.slotAt (D : DevS) (i : Nat) : Option (Nat × Nat × Nat × Nat) := if i < D.disk.length then rdSlot (D.rdB i) D.disk.length else none
def DevS.find (D : DevS) : Option JS :=
 match D.slotAt 0, D.slotAt 1 with
 | none, none => none
 | some x, none => some (slotJ x 0)
 | none, some y => some (slotJ y 1)
 | some x, some y => if x.1 < y.1 then some (slotJ y 1) else some (slotJ x 0)
def DevS.opn (D : DevS) : Int × DevS × Option JS :=
 if D.dead then (4, D, none) else
 match D.find with
 | none => (10, D, none)
 | some J =>
  let r := J.redo D
  if r.1 ≠ 0 then (r.1, r.2.1, none) else
  let c := r.2.2.ckp r.2.1
  if c.1 ≠ 0 then (c.1, c.2.1, none) else (0, c.2.1, some c.2.2)
def fmtL (log : Nat) : List (Int × ByteArray) := ((List.range (log + 1)).map fun i => (((i + 1 : Nat) : Int), noughts)) ++ [(0, slotB 1 1 log 0)]
def DevS.fmt (D : DevS) (log : Int) : Int × DevS := if log < 50 \/ (D.disk.length : Int) - 3 < log then (2, D) else D.stl (fmtL log.toNat)
end Go.Proofs.YthambopnmhkeeaaGreat
/- The document's own device of chapter 1 in memory, and what its turn, Fuse and Read answer: the same as in plain lists. -/
set_option maxRecDepth 100000
namespace Go.Proofs.YthambopnmhkeeaaGreat
open Go.RowKit
def DevS.rfu (D : DevS) : Int := if D.fused then D.fuse else -1
structure Ref (S : Nat -> Prop) (w : World) (r q lcap : Nat) (pv : Value) (D : DevS) : Prop where
 ok : D.Ok
 hp : w.heap[r]? = some (.cells #[.slice (some ⟨q, 0, none⟩) D.disk.length lcap, pv, .int .i64 D.rfu, .bool D.dead] 51 (0, 0))
 hl : w.ownsRow 0 9 1 (.slice (some ⟨q, 0, none⟩) D.disk.length lcap) D.disk.length (D.disk.map Value.string)
 hr : w.ownsRow 0 63 2 pv D.pend.length (flatW D.pend)
 qr : q ≠ r
 rp : pv.ownBlock ≠ some r
 rq : pv.ownBlock ≠ some q
 sp : S r
 sq : S q
 sr : ∀ k, pv.ownBlock = some k -> S k
 lt : ∀ k, S k -> k < w.heap.size
theorem own_kept {T : Nat -> Prop} {w w' : World} {base : Nat} {e : TypeId} {size n : Nat} {v : Value} {xs : List Value} (h : w.ownsRow base e size v n xs) (ho : Only T w w') (hT : ∀ k, v.ownBlock = some k -> ¬ T k) : w'.ownsRow base e size v n xs := by
 refine ⟨h.1, ?_⟩
 rcases h.2 with h' | ⟨g, cap, cur, rfl, h2, h3, h4⟩
 ·exact .inl h'
 ·exact .inr ⟨g, cap, cur, rfl, h2, by rw [ho.block g (Array.getElem?_eq_some_iff.1 h3).1 (hT g rfl)]; exact h3, h4⟩
section
variable {S : Nat -> Prop} {w w' : World} {r q lcap : Nat} {pv : Value} {D : DevS}
theorem Ref.kept {T : Nat -> Prop} (d : Ref S w r q lcap pv D) (h : Only T w w') (hT : ∀ k, S k -> ¬ T k) : Ref S w' r q lcap pv D :=
 ⟨d.ok, by rw [h.block r (d.lt r d.sp) (hT r d.sp)]; exact d.hp, own_kept d.hl h (fun k hk => by cases hk; exact hT q d.sq), own_kept d.hr h (fun k hk => hT k (d.sr k hk)), d.qr, d.rp, d.rq, d.sp, d.sq, d.sr, fun k hk => Nat.lt_of_lt_of_le (d.lt k hk) h.size⟩
theorem Ref.c0 (d : Ref S w r q lcap pv D) : w.cell? ⟨r, 0, none⟩ = some (.slice (some ⟨q, 0, none⟩) D.disk.length lcap) := by rw [cell_at d.hp]; rfl
theorem Ref.c1 (d : Ref S w r q lcap pv D) : w.cell? ⟨r, 1, none⟩ = some pv := by rw [cell_at d.hp]; rfl
theorem Ref.c2 (d : Ref S w r q lcap pv D) : w.cell? ⟨r, 2, none⟩ = some (.int .i64 D.rfu) := by rw [cell_at d.hp]; rfl
theorem Ref.c3 (d : Ref S w r q lcap pv D) : w.cell? ⟨r, 3, none⟩ = some (.bool D.dead) := by rw [cell_at d.hp]; rfl
theorem Ref.f (d : Ref S w r q lcap pv D) (i : Nat) : w.frozen? ⟨r, i, none⟩ = false := free_at d.hp i
theorem Ref.cq (d : Ref S w r q lcap pv D) (i : Nat) (hi : i < D.disk.length) : w.cell? ⟨q, i, none⟩ = some (.string (D.disk.getD i ByteArray.empty)) := by
 rw [World.ownsRow.cellAt d.hl i (by omega)]; simp [hi]
theorem Ref.fq (d : Ref S w r q lcap pv D) (i : Nat) : w.frozen? ⟨q, i, none⟩ = false := World.ownsRow.frozenAt d.hl i
theorem Ref.cr {b cap n : Nat} (d : Ref S w r q lcap (.slice (some ⟨b, 0, none⟩) n cap) D) (k : Nat) (hk : k < D.pend.length) :
  w.cell? ⟨b, k * 2, none⟩ = some (.int .i64 (D.pend[k]).1) /\ w.cell? ⟨b, k * 2 + 1, none⟩ = some (.string (D.pend[k]).2) := by
 have h := d.hr.cells (g := b) rfl
 have hadd : ∀ j, (⟨b, 0, none⟩ : Addr).add j = ⟨b, j, none⟩ := fun j => by unfold Addr.add; split <;> simp_all
 have h0 := h (k * 2) _ (flatW_fst D.pend k hk)
 have h1 := h (k * 2 + 1) _ (flatW_snd D.pend k hk)
 rw [hadd] at h0 h1
 exact ⟨h0, h1⟩
theorem Ref.put (d : Ref S w r q lcap pv D) (i : Nat) (v : Value) (D' : DevS) (pv' : Value) (ok : D'.Ok) (hd : D'.disk = D.disk)
  (hc : (#[.slice (some ⟨q, 0, none⟩) D.disk.length lcap, pv, .int .i64 D.rfu, .bool D.dead] : Array Value).setIfInBounds i v = #[.slice (some ⟨q, 0, none⟩) D.disk.length lcap, pv', .int .i64 D'.rfu, .bool D'.dead])
  (hr : w.ownsRow 0 63 2 pv' D'.pend.length (flatW D'.pend)) (rp : pv'.ownBlock ≠ some r) (rq : pv'.ownBlock ≠ some q) (sr : ∀ k, pv'.ownBlock = some k -> S k) :
  Ref S (w.setCell ⟨r, i, none⟩ v) r q lcap pv' D' := by
 refine ⟨ok, ?_, ?_, ?_, d.qr, rp, rq, d.sp, d.sq, sr, fun k hk => by simpa [World.setCell] using d.lt k hk⟩
 ·rw [heap_setCell_at d.hp, hc, hd]
 ·rw [hd]; exact ownsRow_setCell_other d.hl (by simp [Value.ownBlock]; exact d.qr) _
 ·exact ownsRow_setCell_other hr (by simpa using rp) _
set_option maxHeartbeats 1000000 in
theorem rturn_any (d : Ref S w r q lcap pv D) :
  Calls Tryz.prog 85 #[.pointer (some ⟨r, 0, none⟩)] w fun e w' => e = .returned (.bool D.tk.1) /\ Ref S w' r q lcap pv D.tk.2 /\ Only S w w' /\ w'.heap.size = w.heap.size := by
 have c2 := d.c2; have c3 := d.c3; have f2 := d.f 2; have f3 := d.f 3
 have b0 := d.ok.fuse0; have b1 := d.ok.fuse1
 by_cases hf : D.fused = false
 ·have e : D.tk = (true, D) := by simp [DevS.tk, hf]
  rw [e]
  have er : D.rfu = -1 := by simp [DevS.rfu, hf]
  rw [er] at c2
  have HD := Lib.hid d; clear d e er hf
  go_enter Tryz.func85, Tryz.ntmps85
  go_wp2
  go_ret
  exact ⟨rfl, HD.out, Only.refl _ _, rfl⟩
 ·have hft : D.fused = true := by simpa using hf
  have er : D.rfu = D.fuse := by simp [DevS.rfu, hft]
  rw [er] at c2
  by_cases h0 : D.fuse = 0
  ·have e : D.tk = (false, { D with dead := true }) := by simp [DevS.tk, hft, h0]
   rw [e]
   rw [h0] at c2
   have hd' : Ref S (w.setCell ⟨r, 3, none⟩ (.bool true)) r q lcap pv { D with dead := true } :=
    d.put 3 _ _ pv ⟨d.ok.some, d.ok.few, d.ok.whole, d.ok.pends, d.ok.fuse0, d.ok.fuse1⟩ rfl rfl d.hr d.rp d.rq d.sr
   have HD := Lib.hid hd'; have HS := Lib.hid d.sp; clear d e er hd' hf hft h0
   go_enter Tryz.func85, Tryz.ntmps85
   go_wp2
   go_ret
   exact ⟨rfl, HD.out, (Only.refl _ _).setCell (fun _ => HS.out) _, by simp [World.setCell]⟩
  ·have e : D.tk = (true, { D with fuse := D.fuse - 1 }) := by simp [DevS.tk, hft, h0]
   rw [e]
   have hd' : Ref S (w.setCell ⟨r, 2, none⟩ (.int .i64 (D.fuse - 1))) r q lcap pv { D with fuse := D.fuse - 1 } :=
    d.put 2 _ _ pv ⟨d.ok.some, d.ok.few, d.ok.whole, d.ok.pends, by simp; omega, by simp; omega⟩ rfl (by simp [DevS.rfu, hft]) d.hr d.rp d.rq d.sr
   have HD := Lib.hid hd'; have HS := Lib.hid d.sp
   have hz : (D.fuse == 0) = false := by simpa using h0
   have hp : 0 < D.fuse := by omega
   clear d e er hd' hf hft h0
   generalize D.fuse = fu at *
   go_enter Tryz.func85, Tryz.ntmps85
   go_wp2
   go_ret
   exact ⟨rfl, HD.out, (Only.refl _ _).setCell (fun _ => HS.out) _, by simp [World.setCell]⟩
def lastK (D : DevS) (j k : Nat) : ByteArray := match (D.pend.take k).reverse.find? (fun x => x.1 == j) with | some x => x.2 | none => D.disk.getD j ByteArray.empty
theorem take_snoc'' {α : Type} (L : List α) (k : Nat) (h : k < L.length) : L.take (k + 1) = L.take k ++ [L[k]] := by
 rw [List.take_succ_eq_append_getElem h]
theorem lastK_zero (D : DevS) (j : Nat) : lastK D j 0 = D.disk.getD j ByteArray.empty := rfl
theorem lastK_succ (D : DevS) (j k : Nat) (h : k < D.pend.length) : lastK D j (k + 1) = if D.pend[k].1 = j then D.pend[k].2 else lastK D j k := by
 unfold lastK
 rw [take_snoc'' D.pend k h, List.reverse_append]
 simp only [List.reverse_cons, List.reverse_nil, List.nil_append, List.singleton_append, List.find?_cons]
 by_cases e : D.pend[k].1 = j
 ·simp [e]
 ·have e' : (D.pend[k].1 == j) = false := by simpa using e
  simp [e, e']
theorem lastK_all (D : DevS) (j : Nat) : lastK D j D.pend.length = D.rdB j := by unfold lastK DevS.rdB; rw [List.take_length]; rfl
end
end Go.Proofs.YthambopnmhkeeaaGreat
/- What the document's device's Read and Write answer: the same as in plain lists. -/
set_option maxRecDepth 100000
namespace Go.Proofs.YthambopnmhkeeaaGreat
open Go.RowKit
section
variable {S : Nat -> Prop} {w w' : World} {r q lcap : Nat} {pv : Value} {D : DevS}
def RStands (S : Nat -> Prop) (w : World) (r : Nat) (D : DevS) : Prop := ∃ q lcap pv, Ref S w r q lcap pv D
def RLeaves (S : Nat -> Prop) (w w' : World) (r : Nat) (D' : DevS) : Prop :=
 ∃ S' : Nat -> Prop, (∀ k, S' k -> S k \/ w.heap.size <= k) /\ RStands S' w' r D' /\ Only S w w'
theorem RLeaves.mk {D : DevS} (d : RStands S w' r D) (h : Only S w w') : RLeaves S w w' r D := ⟨S, fun _ => .inl, d, h⟩
theorem RStands.kept {T : Nat -> Prop} (d : RStands S w r D) (h : Only T w w') (hT : ∀ k, S k -> ¬ T k) : RStands S w' r D := by
 obtain ⟨q, lcap, pv, d⟩ := d; exact ⟨q, lcap, pv, d.kept h hT⟩
theorem RStands.below (d : RStands S w r D) (h : Below w.heap.size w w') : RStands S w' r D :=
 d.kept (Only.of_below (fun _ => False) h (Nat.le_refl _)) (fun _ _ f => f)
theorem RStands.ok (d : RStands S w r D) : D.Ok := by obtain ⟨q, lcap, pv, d⟩ := d; exact d.ok
theorem RStands.lt (d : RStands S w r D) : ∀ k, S k -> k < w.heap.size := by obtain ⟨q, lcap, pv, d⟩ := d; exact d.lt
set_option maxHeartbeats 1000000 in
theorem rread_no (i : Int) (hck : D.ck i ≠ 0) (d : Ref S w r q lcap pv D) :
  Calls Tryz.prog 138 #[.pointer (some ⟨r, 0, none⟩), .int .i64 i] w fun e w' => e = .returned (.tuple #[.string ByteArray.empty, .int .i64 (D.ck i)]) /\ w = w' := by
 have c0 := d.c0; have c3 := d.c3; have hn := d.ok.few
 clear d
 by_cases hde : D.dead = true
 ·have e : D.ck i = 4 := by simp [DevS.ck, hde]
  rw [e]
  rw [hde] at c3
  clear hck e hde
  generalize D.disk.length = n at *
  go_enter Tryz.func138, Tryz.ntmps138
  go_wp2
  go_ret2
  exact ⟨rfl, rfl⟩
 ·have hdf : D.dead = false := by simpa using hde
  have h : i < 0 \/ (0 <= i /\ (D.disk.length : Int) <= i) := by
   unfold DevS.ck at hck; rw [hdf] at hck; simp at hck; omega
  have e : D.ck i = 2 := by unfold DevS.ck; rw [hdf, if_neg (by simp), if_pos (by omega)]
  rw [e]
  rw [hdf] at c3
  clear hck e hde hdf
  generalize D.disk.length = n at *
  rcases h with h | ⟨h, h'⟩
  all_goals
   go_enter Tryz.func138, Tryz.ntmps138
   go_wp2
   go_ret2
   exact ⟨rfl, rfl⟩
set_option maxHeartbeats 2000000 in
theorem rread_yes (j n : Nat) (hn : D.pend.length = n) (hb : n <= 1000000) (hde : D.dead = false) (hj : j < D.disk.length) (d : Ref S w r q lcap pv D) :
  Calls Tryz.prog 138 #[.pointer (some ⟨r, 0, none⟩), .int .i64 j] w fun e w' => e = .returned (.tuple #[.string (D.rdB j), .int .i64 0]) /\ w = w' := by
 have c0 := d.c0; have c1 := d.c1; have c3 := d.c3; have cq := d.cq j hj; have hfew := d.ok.few
 rw [hde] at c3
 obtain ⟨ao, cap, hpv⟩ := own_shape d.hr
 rw [hn] at hpv
 have HD := Lib.hid d; have HN := Lib.hid hn
 have HZ := Lib.hid (lastK_zero D j)
 have HAll : Hid (lastK D j n = D.rdB j) := by show _ = _; rw [<- hn]; exact lastK_all D j
 clear d hn hde
 subst hpv
 generalize D.disk.length = nd at *
 rw [<- HZ.out] at cq
 go_enter Tryz.func138, Tryz.ntmps138
 go_wp2_with fail
 go_loop [6, 7] (fun sv iv => ∃ k : Nat, k <= n /\ iv = .int .i64 k /\ sv = .string (lastK D j k)) (fun _ iv => n - (intOf iv).toNat)
 case atStart => exact ⟨0, Nat.zero_le _, rfl, rfl⟩
 case round =>
  obtain ⟨k, hk, rfl, rfl⟩ := hrel
  by_cases hlt : k < n
  ·have hkp : k < D.pend.length := by rw [HN.out]; exact hlt
   obtain ⟨b, e⟩ : ∃ b, ao = some ⟨b, 0, none⟩ := by
    rcases HD.out.hr.2 with ⟨h1, h2⟩ | ⟨g, cap', cur, h1, _⟩
    ·rw [HN.out] at h2; omega
    ·simp at h1; exact ⟨g, h1.1⟩
   subst e
   obtain ⟨d0, d1⟩ := HD.out.cr k hkp
   have HS := Lib.hid (lastK_succ D j k hkp)
   generalize D.pend[k] = x at *
   obtain ⟨xb, xs⟩ := x
   simp only at d0 d1 HS
   clear hkp
   by_cases e : xb = j
   ·have e' : ((xb : Int) == (j : Int)) = true := by simp [e]
    have HE : Hid (lastK D j (k + 1) = xs) := by show _ = _; rw [HS.out, if_pos e]
    clear e HS
    generalize lastK D j k = T at *
    go_wp2
    go_round
    case rel => exact ⟨k + 1, by omega, by go_num, by rw [HE.out]⟩
    case measure => simp [intOf]; omega
   ·have e' : ((xb : Int) == (j : Int)) = false := by simp; omega
    have HE : Hid (lastK D j (k + 1) = lastK D j k) := by show _ = _; rw [HS.out, if_neg e]
    clear e HS
    go_wp2
    go_round
    case rel => exact ⟨k + 1, by omega, by go_num, by rw [HE.out]⟩
    case measure => simp [intOf]; omega
  ·have hkn : k = n := by omega
   subst hkn
   go_wp2
   go_ret2
   exact ⟨by rw [<- HAll.out]; rfl, rfl⟩
theorem rread_any (i : Int) (hl : D.pend.length <= 1000000) (d : RStands S w r D) :
  Calls Tryz.prog 138 #[.pointer (some ⟨r, 0, none⟩), .int .i64 i] w fun e w' => e = .returned (.tuple #[.string (D.rd i).1, .int .i64 (D.rd i).2]) /\ w = w' := by
 obtain ⟨q, lcap, pv, d⟩ := d
 by_cases h1 : D.ck i = 0
 ·have hk : D.dead = false /\ 0 <= i /\ i < D.disk.length := by
   unfold DevS.ck at h1
   split at h1
   ·omega
   ·split at h1
    ·omega
    ·exact ⟨by simp_all, by omega, by omega⟩
  obtain ⟨j, rfl⟩ := Int.eq_ofNat_of_zero_le hk.2.1
  have e : D.rd j = (D.rdB j, 0) := by simp [DevS.rd, h1]
  rw [e]
  exact rread_yes j _ rfl hl hk.1 (by omega) d
 ·have e : D.rd i = (ByteArray.empty, D.ck i) := by simp [DevS.rd, h1]
  rw [e]
  exact rread_no i h1 d
end
end Go.Proofs.YthambopnmhkeeaaGreat
/- The document's frame and the program's, in plain lists: the same. -/
namespace Go.Proofs.YthambopnmhkeeaaGreat
open Go.RowKit
open Fr (nmAt unp unp_cons formB formB_iff sumB headB headB_iff blocksOf)
def JS.readL (J : JS) (D : DevS) (m : Nat) : List ByteArray := (List.range m).map fun i => D.rdB (J.pos i)
theorem readL_succ (J : JS) (D : DevS) (m : Nat) : J.readL D (m + 1) = J.readL D m ++ [D.rdB (J.pos m)] := by unfold JS.readL; rw [List.range_succ, List.map_append]; rfl
theorem readL_len (J : JS) (D : DevS) (m : Nat) : (J.readL D m).length = m := by simp [JS.readL]
def tailL (J : JS) (D : DevS) (m : Nat) : List ByteArray := (List.range m).map fun i => D.rdB (J.pos (i + 1))
theorem readL_cons (J : JS) (D : DevS) (m : Nat) : J.readL D (m + 1) = D.rdB (J.pos 0) :: tailL J D m := by
 unfold JS.readL tailL; rw [List.range_succ_eq_map]; simp
theorem tailL_take (J : JS) (D : DevS) (k m : Nat) (h : k <= m) : (tailL J D m).take k = tailL J D k := by
 unfold tailL
 rw [<- List.map_take, List.take_range, Nat.min_eq_left h]
theorem tailL_len (J : JS) (D : DevS) (m : Nat) : (tailL J D m).length = m := by simp [tailL]
theorem unp_more (s : ByteArray) (T : List ByteArray) (k : Nat) (h : nmAt s.data.toList 12 <= k) (hk : k <= T.length) : unp (s :: T.take k) = unp (s :: T) := by
 have e : (T.take k).take (nmAt s.data.toList 12) = T.take (nmAt s.data.toList 12) := by rw [List.take_take, Nat.min_eq_left h]
 have hf : formB s (T.take k) = formB s T := by
  unfold formB
  rw [e, List.length_take, Nat.min_eq_left hk]
  have a1 : decide (nmAt s.data.toList 12 <= k) = true := decide_eq_true h
  have a2 : decide (nmAt s.data.toList 12 <= T.length) = true := decide_eq_true (by omega)
  rw [a1, a2]
 have hs : sumB s (T.take k) = sumB s T := by unfold sumB; rw [e]
 rw [unp_cons, unp_cons, hf, hs, e]
def fineR (J : JS) (n : Nat) (R : Nat × List (Int × ByteArray) × Nat) : Prop := R.2.2 = 0 /\ R.1 = J.next /\ ∀ x ∈ R.2.1, (J.home : Int) <= x.1 /\ x.1 < (n : Int)
instance (J : JS) (n : Nat) (R : Nat × List (Int × ByteArray) × Nat) : Decidable (fineR J n R) := by unfold fineR; infer_instance
theorem unp_ok (s : ByteArray) (T : List ByteArray) (h : (unp (s :: T)).2.2 = 0) : 1 <= (unp (s :: T)).2.1.length /\ (unp (s :: T)).2.1.length <= 48 /\ ∀ x ∈ (unp (s :: T)).2.1, x.2.size = 256 := by
 rw [unp_cons] at h ⊢
 by_cases h1 : formB s T = true
 ·rw [if_pos h1] at h ⊢
  by_cases h2 : sumB s T = true
  ·rw [if_pos h2]
   obtain ⟨f1, f2, f3⟩ := (formB_iff s T).1 h1
   obtain ⟨_, _, _, g1, g2, _⟩ := (headB_iff _).1 f1
   have hb : (blocksOf s.data.toList).length = nmAt s.data.toList 12 := by simp [blocksOf]
   refine ⟨?_, ?_, fun x hx => f3 x.2 ?_⟩
   ·simp only [List.length_zip, hb, List.length_take]; omega
   ·simp only [List.length_zip, hb, List.length_take]; omega
   ·exact (List.of_mem_zip (a := x.1) (b := x.2) hx).2
  ·rw [if_neg h2] at h; cases h
 ·rw [if_neg h1] at h; cases h
theorem frame_same (J : JS) (D : DevS) : J.frameOf D = if fineR J D.disk.length (unp (J.readL D (min J.left 49))) then some (unp (J.readL D (min J.left 49))).2.1 else none := by
 by_cases h0 : J.left = 0
 ·unfold JS.frameOf
  rw [if_neg (by rintro ⟨_, h, _⟩; omega), h0, if_neg]
  rintro ⟨h, _⟩
  cases h
 ·obtain ⟨m, hm⟩ : ∃ m, min J.left 49 = m + 1 := ⟨min J.left 49 - 1, by omega⟩
  rw [hm, readL_cons]
  by_cases hh : headB (D.rdB (J.pos 0)).data.toList = true
  ·obtain ⟨_, _, _, g1, g2, _⟩ := (headB_iff _).1 hh
   by_cases hl : nmAt (D.rdB (J.pos 0)).data.toList 12 + 1 <= J.left
   ·have hfa : J.frameAt D = D.rdB (J.pos 0) :: (tailL J D m).take (nmAt (D.rdB (J.pos 0)).data.toList 12) := by
     rw [tailL_take J D _ m (by omega)]; rfl
    have hu : unp (J.frameAt D) = unp (D.rdB (J.pos 0) :: tailL J D m) := by
     rw [hfa, unp_more _ _ _ (Nat.le_refl _) (by rw [tailL_len]; omega)]
    unfold JS.frameOf
    rw [hu]
    have hiff : (headB (D.rdB (J.pos 0)).data.toList = true /\ nmAt (D.rdB (J.pos 0)).data.toList 12 + 1 <= J.left /\ (unp (D.rdB (J.pos 0) :: tailL J D m)).2.2 = 0 /\ (unp (D.rdB (J.pos 0) :: tailL J D m)).1 = J.next /\ J.chk D.disk.length (unp (D.rdB (J.pos 0) :: tailL J D m)).2.1 = 0) ↔ fineR J D.disk.length (unp (D.rdB (J.pos 0) :: tailL J D m)) := by
     constructor
     ·rintro ⟨_, _, a, b, c⟩
      exact ⟨a, b, fun x hx => by obtain ⟨c1, c2, _⟩ := ((J.chk_ok _ _).1 c).2.2 x hx; exact ⟨c1, c2⟩⟩
     ·rintro ⟨a, b, c⟩
      obtain ⟨o1, o2, o3⟩ := unp_ok _ _ a
      exact ⟨hh, hl, a, b, (J.chk_ok _ _).2 ⟨o1, o2, fun x hx => ⟨(c x hx).1, (c x hx).2, o3 x hx⟩⟩⟩
    by_cases hc : fineR J D.disk.length (unp (D.rdB (J.pos 0) :: tailL J D m))
    ·rw [if_pos hc, if_pos (hiff.2 hc)]
    ·rw [if_neg hc, if_neg (fun h => hc (hiff.1 h))]
   ·unfold JS.frameOf
    rw [if_neg (by rintro ⟨_, h, _⟩; exact hl h), if_neg]
    rintro ⟨h, _⟩
    rw [unp_cons, if_neg (by rw [formB_iff, tailL_len]; rintro ⟨_, h, _⟩; omega)] at h
    cases h
  ·unfold JS.frameOf
   rw [if_neg (by rintro ⟨h, _⟩; exact hh h), if_neg]
   rintro ⟨h, _⟩
   rw [unp_cons, if_neg (by rw [formB_iff]; rintro ⟨h, _⟩; exact hh h)] at h
   cases h
end Go.Proofs.YthambopnmhkeeaaGreat
