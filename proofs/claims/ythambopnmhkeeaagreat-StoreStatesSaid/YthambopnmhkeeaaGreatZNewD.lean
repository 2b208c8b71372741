/- What block.New answers, for every number: a new device of so many empty blocks, or ErrRange and nil; nothing that was there is changed. -/
import Derived.Test.YthambopnmhkeeaaGreatZShelf
import Derived.Test.YthambopnmhkeeaaGreatZCalls2
import Derived.Lib.Hide
import Derived.Laws.CopyOwn
import Derived.Deep.RegionLaw

namespace Go.Proofs.YthambopnmhkeeaaGreat
open Go.RowKit

def fillS (s : ByteArray) (n k : Nat) : List Value := List.replicate k (Value.string s) ++ List.replicate (n - k) (Value.string ⟨#[]⟩)
theorem fillS_length (s : ByteArray) (n k : Nat) (h : k <= n) : (fillS s n k).length = n := by simp [fillS]; omega
theorem fillS_splice (s : ByteArray) (n k m : Nat) : splice (fillS s n k) k (List.replicate m (Value.string s)) = fillS s n (k + m) := by
  unfold splice fillS
  rw [List.take_left' (by simp), List.length_replicate, List.drop_append]
  simp only [List.drop_replicate, List.length_replicate]
  rw [show k - (k + m) = 0 from by omega, show k + m - k = m from by omega, show n - k - m = n - (k + m) from by omega, List.replicate_zero, List.nil_append, <- List.append_assoc, List.replicate_append_replicate]
theorem fillS_get (s : ByteArray) (n k j : Nat) (h : j < k) : (fillS s n k)[j]? = some (.string s) := by
  unfold fillS
  rw [List.getElem?_append_left (by simpa using h)]
  simp [h]
theorem fillS_zero (s : ByteArray) (n : Nat) : fillS s n 0 = List.replicate n (Value.string ⟨#[]⟩) := by simp [fillS]
theorem fillS_all (s : ByteArray) (n : Nat) : fillS s n n = List.replicate n (Value.string s) := by simp [fillS]

theorem _root_.Go.Proofs.Tryz.infoS : (Tryz.prog.info? 9).map (fun i => (i.zero, i.size, i.bytes)) = some (some (.string ⟨#[]⟩), 1, 16) := by kernel_rfl
theorem sizeS : (Tryz.prog.info? 9).map (·.size) = some 1 := by kernel_rfl

theorem mul_one_any (n : Nat) (hn : n <= 4096) (w : World) :
    Calls Tryz.prog 114 #[.int .u64 1, .int .u64 n] w fun e w' => e = .returned (.tuple #[.int .u64 0, .int .u64 n]) /\ w = w' := by
  have h := Tryz.bits_Mul 1 n (by omega) (by omega) w
  have e1 : 1 * n / 18446744073709551616 = 0 := by omega
  have e2 : 1 * n % 18446744073709551616 = n := by omega
  rw [e1, e2] at h
  exact h.mono fun e w' ⟨he, hw⟩ => ⟨he, hw.symm⟩

theorem own_full {w : World} {B e g n : Nat} {xs : List Value} (h : w.ownsRow B e 1 (.slice (some ⟨g, 0, none⟩) n n) n xs) : w.heap[g]? = some (.cells xs.toArray e (0, 0)) := by
  rcases h.2 with ⟨h0, _⟩ | ⟨g', cap, cur, hv, hb, hg, hnc, hcm, hcs, htk⟩
  . cases h0
  . cases hv
    have e : cur.toList = xs := by rw [<- htk]; exact (List.take_of_length_le (by simp [hcs])).symm
    rw [hg, <- e]

set_option maxRecDepth 100000 in
set_option maxHeartbeats 2000000 in
theorem slRepeat_any (s : ByteArray) (n b c : Nat) (w : World) (h1 : 1 <= n) (hn : n <= 4096) (hc : w.cell? ⟨b, 0, none⟩ = some (.string s)) :
    Calls Tryz.prog 67 #[.slice (some ⟨b, 0, none⟩) 1 c, .int .i64 n] w fun e w' => e = .returned (.slice (some ⟨w.heap.size, 0, none⟩) n n) /\
      w'.heap[w.heap.size]? = some (.cells (List.replicate n (Value.string s)).toArray 9 (0, 0)) /\ Below w.heap.size w w' := by
  have hbl : b < w.heap.size := World.block_lt_of_cell? w _ hc
  obtain ⟨i0, hi, hz0, hz1, hz2⟩ := info_parts Tryz.infoS
  have HZ2 := Lib.hid hz2; clear hz2
  go_enter Tryz.func67, Tryz.ntmps67
  go_wp2_with fail
  refine (mul_one_any n hn _).mono ?_
  rintro e w' ⟨rfl, rfl⟩
  go_wp2_with (at_make; refine wpList_make_full _ rfl _ _ 47 rfl w.heap.size 9 i0 (.string ⟨#[]⟩) 1 Tryz.underlying47 hi hz0 hz1 _ _ _ _ n rfl rfl rfl rfl (by rw [HZ2.out]; omega) (by unfold maxLen; omega) (Nat.le_refl _) ?_)
  intro w1 hown hgrow
  have HB : Hid (Below w.heap.size w w1) := (Below.refl _ _).grown hgrow (Nat.le_refl _) (fun k h => by cases h)
  have HR : Hid (w1.heap[w.heap.size]? = some (.cells (fillS s n 0).toArray 9 (0, 0))) := by
    rw [toList_madeCells_one] at hown
    rw [fillS_zero]
    exact own_full hown
  have hc1 : w1.cell? ⟨b, 0, none⟩ = some (.string s) := by rw [HB.out.cell (p := ⟨b, 0, none⟩) hbl]; exact hc
  clear hown hgrow hc
  obtain ⟨g, hg⟩ : ∃ g, w.heap.size = g := ⟨_, rfl⟩
  rw [hg] at HR HB hbl ⊢
  have HG := Lib.hid hg; clear hg
  obtain ⟨F, hF⟩ : ∃ F, F = fillS s n := ⟨_, rfl⟩
  have HFl : Hid (∀ k, k <= n -> (F k).length = n) := by intro k hk; rw [hF]; exact fillS_length s n k hk
  have HFs : Hid (∀ k m, k + m <= n -> splice (F k) k (List.replicate m (Value.string s)) = F (k + m)) := by intro k m _; rw [hF]; exact fillS_splice s n k m
  have HFg : Hid (∀ k j, j < k -> (F k)[j]? = some (.string s)) := by intro k j hk; rw [hF]; exact fillS_get s n k j hk
  have HFn : Hid (F n = List.replicate n (Value.string s)) := by rw [hF]; exact fillS_all s n
  rw [<- hF] at HR
  clear hF
  go_wp2_with (refine wpList_copy_splice (o := ⟨some 33, _, _, _, _, _⟩) rfl (.tmp 31) (.tmp 32) 47 47 rfl 9 Tryz.underlying47 sizeS _ _ _ _ _ _ rfl rfl g 0 (F 0) 9 HR.out [.string s] (by show 1 = min 1 n; omega) (fun _ => ⟨rfl, _, rfl, fun j v hj => by match j, hj with | 0, hj => simp at hj; subst hj; simpa [Addr.add] using hc1⟩) (by rw [HFl.out 0 (Nat.zero_le _)]; simp; omega) (fun v hv => by simp at hv; subst hv; rfl) g w HB.out (Nat.le_refl _) ?_)
  intro w2 hr2 hb2
  have HR2 : Hid (w2.heap[g]? = some (.cells (F 1).toArray 9 (0, 0))) := by
    have := HFs.out 0 1 (by omega)
    rw [List.replicate_one, Nat.zero_add] at this
    rw [<- this]
    exact hr2.out
  have HB2 := Lib.hid hb2
  clear hr2 hb2 hc1
  go_wp2_with fail
  generalize Value.bool (decide ((9223372036854775807 : Int) < (n : Int))) = vb
  generalize Value.bool (decide ((n : Int) < 0)) = vb2
  go_loopw [8] (fun i wr => ∃ k : Nat, 1 <= k /\ k <= n /\ i = .int .i64 k /\ Hid (wr.heap[g]? = some (.cells (F k).toArray 9 (0, 0))) /\ Hid (Below g w wr)) (fun i _ => n - (intOf i).toNat)
  case atStart => exact ⟨1, Nat.le_refl _, h1, rfl, HR2, HB2⟩
  case round =>
    clear HR HB HR2 HB2
    obtain ⟨k, hk1, hk, rfl, HR, HB⟩ := hrel
    by_cases hlt : k < n
    . have hkz : (k : Int) < (n : Int) := by omega
      have hne : ¬ n = k := by omega
      obtain ⟨m, hm⟩ : ∃ m, m = Nat.min k (n - k) := ⟨_, rfl⟩
      have hm1 : m <= k := by rw [hm]; exact Nat.min_le_left _ _
      have hm2 : m + k <= n := by have : m <= n - k := by { rw [hm]; exact Nat.min_le_right _ _ }
                                 omega
      have hm3 : 1 <= m := by rw [hm]; exact Nat.le_min.2 ⟨hk1, by omega⟩
      have HM := Lib.hid hm; clear hm
      have HCS : Hid (∀ j v, (List.replicate m (Value.string s))[j]? = some v -> wr.drew.cell? ((⟨g, 0, none⟩ : Addr).add j) = some v) := by
        intro j v hj
        have hj' : j < m := by simpa using (List.getElem?_eq_some_iff.1 hj).1
        have hv : v = .string s := by simp [hj'] at hj; exact hj.symm
        subst hv
        have hadd : (⟨g, 0, none⟩ : Addr).add j = ⟨g, j, none⟩ := by unfold Addr.add; split <;> simp_all
        have hR : wr.drew.heap[g]? = some (.cells (F k).toArray 9 (0, 0)) := HR.out
        rw [hadd, cell_at hR]
        simpa using HFg.out k j (by omega)
      have hlen : k + (List.replicate m (Value.string s)).length <= (F k).length := by rw [HFl.out k hk, List.length_replicate]; omega
      have HLen := Lib.hid hlen; clear hlen
      have hwk : IntKind.i64.wrap ((k : Int) + (m : Int)) = (k : Int) + (m : Int) := IntWalk.i64_in _ (by omega)
      go_wp2
      go_region_law (refine step_copy_splice rfl (.tmp 41) (.tmp 44) 47 47 rfl 9 Tryz.underlying47 sizeS (some ⟨g, k, none⟩) (some ⟨g, 0, none⟩) (n - k) (n - k) k n (by kernel_rfl) (by kernel_rfl) g k (F k) 9 HR.out (List.replicate m (Value.string s)) (by rw [List.length_replicate]; exact HM.out) (fun _ => ⟨rfl, _, rfl, HCS.out⟩) HLen.out (fun v hv => by rw [List.eq_of_mem_replicate hv]; rfl) g w HB.out.drew (Nat.le_refl _) ?_; intro w3 hr3 hb3)
      simp only [Act.put, List.getElem_toArray, List.getElem_cons_succ, List.getElem_cons_zero, List.setIfInBounds_toArray, List.set_cons_succ, List.set_cons_zero]
      go_wp2
      go_roundw
      case rel =>
        refine ⟨k + m, by omega, by omega, by go_num, ?_, hb3⟩
        have := HFs.out k m (by omega)
        rw [<- this]; exact hr3
      case measure => simp [intOf]; omega
    . have hkn : k = n := by omega
      subst hkn
      go_wp2
      go_ret
      exact ⟨by rw [HG.out]; rfl, by rw [HG.out, <- HFn.out]; exact HR.out, by rw [HG.out]; exact HB.out⟩

theorem size_alloc (w : World) (o : Obj) : (w.alloc o).heap.size = w.heap.size + 1 := by simp
def noughts : ByteArray := ⟨(Lib.repeatL [0] 256).toArray⟩
def DevS.made (n : Nat) : DevS := ⟨List.replicate n noughts, [], false, 0, false⟩
theorem noughts_size : noughts.size = 256 := by decide +kernel
theorem DevS.made_ok (n : Nat) (h1 : 1 <= n) (h2 : n <= 4096) : (DevS.made n).Ok :=
  ⟨by simpa [DevS.made] using h1, by simpa [DevS.made] using h2, fun s hs => by rw [List.eq_of_mem_replicate hs]; exact noughts_size, (fun x h => by cases h), Int.le_refl _, by simp [DevS.made]⟩

theorem noughts_any (w : World) : Calls Tryz.prog 66 #[.string ⟨#[0]⟩, .int .i64 256] w fun e w' => e = .returned (.string noughts) /\ Below w.heap.size w w' :=
  Tryz.strings_Repeat_main ⟨#[0]⟩ 256 w (by omega) (by omega) (by decide) (by decide)

def Fresh (w w' : World) (p : Nat) (D : DevS) : Prop := ∃ S : Nat -> Prop, (∀ k, S k -> w.heap.size <= k) /\ Stands S w' p D /\ Below w.heap.size w w'

set_option maxRecDepth 100000 in
set_option maxHeartbeats 1000000 in
theorem new_yes (n : Nat) (w : World) (h1 : 1 <= n) (h2 : n <= 4096) :
    Calls Tryz.prog 24 #[.int .i64 n] w fun e w' => ∃ p, e = .returned (.tuple #[.pointer (some ⟨p, 0, none⟩), .int .i64 0]) /\ Fresh w w' p (DevS.made n) := by
  have h1' : ¬ ((n : Int) < 1) := by omega
  have h2' : ¬ (4096 : Int) < (n : Int) := by omega
  go_enter Tryz.func24, Tryz.ntmps24
  go_wp2_with fail
  refine (noughts_any _).mono ?_
  rintro e w1 ⟨rfl, hb1⟩
  have HB1 := Lib.hid hb1; clear hb1
  have cR := slRepeat_any noughts n w1.heap.size 1 (w1.alloc (.cells #[.string noughts] 9)) h1 h2 (by simp)
  have HR := Lib.hid cR; clear cR
  obtain ⟨N, hN⟩ : ∃ N, noughts = N := ⟨_, rfl⟩
  rw [hN] at HR ⊢
  have HN := Lib.hid hN; clear hN
  go_wp2_with fail
  refine HR.out.mono ?_
  rintro e w2 ⟨rfl, hr2, hb2⟩
  have HR2 := Lib.hid hr2; clear hr2
  have HB2 := Lib.hid hb2; clear hb2
  have hz1 := HB1.out.size
  have hz2 := HB2.out.size
  have hr2' := HR2.out
  simp only [size_alloc] at hz2 hr2'
  have hlt2 : w1.heap.size + 1 < w2.heap.size := (Array.getElem?_eq_some_iff.1 hr2').1
  have HR3 := Lib.hid hr2'; clear hr2'
  go_wp2
  go_ret2
  refine ⟨w2.heap.size, rfl, fun k => k = w2.heap.size \/ k = w1.heap.size + 1, ?_, ⟨w1.heap.size + 1, .slice none 0 0, DevS.made_ok n h1 h2, ?_, ?_, World.ownsRow_nil _ _ _ _, by omega, by simp [Value.ownBlock], by simp [Value.ownBlock], .inl rfl, .inr rfl, fun k hk => by simp [Value.ownBlock] at hk, ?_⟩, ?_⟩
  . rintro k (rfl | rfl) <;> omega
  . rw [heap_alloc_new]; simp [DevS.made]
  . rw [Below.heap_alloc _ _ _ (by omega)]
    rw [HR3.out]; simp [DevS.made, HN.out]
  . rintro k (rfl | rfl) <;> simp <;> omega
  . exact ((HB1.out.trans ((Below.refl _ _).alloc hz1 _)).trans (HB2.out.mono (by simp; omega))).alloc (by omega) _

theorem new_any (n : Int) (w : World) (h : 1 <= n /\ n <= 4096) :
    Calls Tryz.prog 24 #[.int .i64 n] w fun e w' => ∃ p, e = .returned (.tuple #[.pointer (some ⟨p, 0, none⟩), .int .i64 0]) /\ Fresh w w' p (DevS.made n.toNat) := by
  obtain ⟨m, rfl⟩ := Int.eq_ofNat_of_zero_le (show 0 <= n by omega)
  exact new_yes m w (by omega) (by omega)

section
variable {S : Nat -> Prop} {w : World} {p q : Nat} {pv : Value} {D : DevS}

theorem Dev.cq' (d : Dev S w p q pv D) (b : Nat) (hb : b < D.disk.length) : w.cell? ⟨q, b, none⟩ = some (.string (D.disk.getD b ByteArray.empty)) := by
  rw [cell_at d.hq]; simp [hb]

set_option maxRecDepth 100000 in
set_option maxHeartbeats 1000000 in
theorem disk_any (d : Stands S w p D) :
    Calls Tryz.prog 20 #[.pointer (some ⟨p, 0, none⟩)] w fun e w' => ∃ v, e = .returned v /\ w'.ownsRow w.heap.size 9 1 v D.disk.length (D.disk.map Value.string) /\ Below w.heap.size w w' := by
  obtain ⟨q, pv, d⟩ := d
  have c0 := d.c0
  have hc := Tryz.slices_Clone_string q 0 D.disk.length D.disk.length D.disk w (Nat.le_refl _) (by have := d.ok.few; omega) (fun j hj => by rw [Nat.zero_add]; exact d.cq' j hj)
  rw [List.take_length] at hc
  have HC := Lib.hid hc
  clear hc d
  go_enter Tryz.func20, Tryz.ntmps20
  go_wp2_with fail
  refine HC.out.mono ?_
  rintro e w1 ⟨v, rfl, hown, _, hb⟩
  have HO := Lib.hid hown; clear hown
  have HB := Lib.hid hb; clear hb
  go_wp2
  go_ret
  exact ⟨v, rfl, HO.out, HB.out⟩

end

end Go.Proofs.YthambopnmhkeeaaGreat
