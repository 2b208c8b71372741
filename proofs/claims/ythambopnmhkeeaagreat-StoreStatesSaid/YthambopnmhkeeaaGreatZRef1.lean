/- The document's own device of chapter 1 in memory, and what its turn, Fuse and Read answer: the same as in plain lists. -/
import Derived.Test.YthambopnmhkeeaaGreatZLOpen

namespace Go.Proofs.YthambopnmhkeeaaGreat
open Go.RowKit

def DevS.rfu (D : DevS) : Int := if D.fused then D.fuse else -1

structure Ref (S : Nat -> Prop) (w : World) (r q lcap : Nat) (pv : Value) (D : DevS) : Prop where
  ok : D.Ok
  hp : w.heap[r]? = some (.cells #[.slice (some ⟨q, 0, none⟩) D.disk.length lcap, pv, .int .i64 D.rfu, .bool D.dead] 51 (0, 0))
  hl : w.ownsRow 0 9 1 (.slice (some ⟨q, 0, none⟩) D.disk.length lcap) D.disk.length (D.disk.map Value.string)
  hr : w.ownsRow 0 63 2 pv D.pend.length (flatW D.pend)
  qr : q ≠ r
  rp : pv.ownBlock ≠ some r
  rq : pv.ownBlock ≠ some q
  sp : S r
  sq : S q
  sr : ∀ k, pv.ownBlock = some k -> S k
  lt : ∀ k, S k -> k < w.heap.size

theorem own_kept {T : Nat -> Prop} {w w' : World} {base : Nat} {e : TypeId} {size n : Nat} {v : Value} {xs : List Value} (h : w.ownsRow base e size v n xs) (ho : Only T w w') (hT : ∀ k, v.ownBlock = some k -> ¬ T k) : w'.ownsRow base e size v n xs := by
  refine ⟨h.1, ?_⟩
  rcases h.2 with h' | ⟨g, cap, cur, rfl, h2, h3, h4⟩
  . exact .inl h'
  . exact .inr ⟨g, cap, cur, rfl, h2, by rw [ho.block g (Array.getElem?_eq_some_iff.1 h3).1 (hT g rfl)]; exact h3, h4⟩

section
variable {S : Nat -> Prop} {w w' : World} {r q lcap : Nat} {pv : Value} {D : DevS}
theorem Ref.kept {T : Nat -> Prop} (d : Ref S w r q lcap pv D) (h : Only T w w') (hT : ∀ k, S k -> ¬ T k) : Ref S w' r q lcap pv D :=
  ⟨d.ok, by rw [h.block r (d.lt r d.sp) (hT r d.sp)]; exact d.hp, own_kept d.hl h (fun k hk => by cases hk; exact hT q d.sq), own_kept d.hr h (fun k hk => hT k (d.sr k hk)), d.qr, d.rp, d.rq, d.sp, d.sq, d.sr, fun k hk => Nat.lt_of_lt_of_le (d.lt k hk) h.size⟩
theorem Ref.c0 (d : Ref S w r q lcap pv D) : w.cell? ⟨r, 0, none⟩ = some (.slice (some ⟨q, 0, none⟩) D.disk.length lcap) := by rw [cell_at d.hp]; rfl
theorem Ref.c1 (d : Ref S w r q lcap pv D) : w.cell? ⟨r, 1, none⟩ = some pv := by rw [cell_at d.hp]; rfl
theorem Ref.c2 (d : Ref S w r q lcap pv D) : w.cell? ⟨r, 2, none⟩ = some (.int .i64 D.rfu) := by rw [cell_at d.hp]; rfl
theorem Ref.c3 (d : Ref S w r q lcap pv D) : w.cell? ⟨r, 3, none⟩ = some (.bool D.dead) := by rw [cell_at d.hp]; rfl
theorem Ref.f (d : Ref S w r q lcap pv D) (i : Nat) : w.frozen? ⟨r, i, none⟩ = false := free_at d.hp i
theorem Ref.cq (d : Ref S w r q lcap pv D) (i : Nat) (hi : i < D.disk.length) : w.cell? ⟨q, i, none⟩ = some (.string (D.disk.getD i ByteArray.empty)) := by
  rw [World.ownsRow.cellAt d.hl i (by omega)]; simp [hi]
theorem Ref.fq (d : Ref S w r q lcap pv D) (i : Nat) : w.frozen? ⟨q, i, none⟩ = false := World.ownsRow.frozenAt d.hl i
theorem Ref.cr {b cap n : Nat} (d : Ref S w r q lcap (.slice (some ⟨b, 0, none⟩) n cap) D) (k : Nat) (hk : k < D.pend.length) :
    w.cell? ⟨b, k * 2, none⟩ = some (.int .i64 (D.pend[k]).1) /\ w.cell? ⟨b, k * 2 + 1, none⟩ = some (.string (D.pend[k]).2) := by
  have h := d.hr.cells (g := b) rfl
  have hadd : ∀ j, (⟨b, 0, none⟩ : Addr).add j = ⟨b, j, none⟩ := fun j => by unfold Addr.add; split <;> simp_all
  have h0 := h (k * 2) _ (flatW_fst D.pend k hk)
  have h1 := h (k * 2 + 1) _ (flatW_snd D.pend k hk)
  rw [hadd] at h0 h1
  exact ⟨h0, h1⟩

theorem Ref.put (d : Ref S w r q lcap pv D) (i : Nat) (v : Value) (D' : DevS) (pv' : Value) (ok : D'.Ok) (hd : D'.disk = D.disk)
    (hc : (#[.slice (some ⟨q, 0, none⟩) D.disk.length lcap, pv, .int .i64 D.rfu, .bool D.dead] : Array Value).setIfInBounds i v = #[.slice (some ⟨q, 0, none⟩) D.disk.length lcap, pv', .int .i64 D'.rfu, .bool D'.dead])
    (hr : w.ownsRow 0 63 2 pv' D'.pend.length (flatW D'.pend)) (rp : pv'.ownBlock ≠ some r) (rq : pv'.ownBlock ≠ some q) (sr : ∀ k, pv'.ownBlock = some k -> S k) :
    Ref S (w.setCell ⟨r, i, none⟩ v) r q lcap pv' D' := by
  refine ⟨ok, ?_, ?_, ?_, d.qr, rp, rq, d.sp, d.sq, sr, fun k hk => by simpa [World.setCell] using d.lt k hk⟩
  . rw [heap_setCell_at d.hp, hc, hd]
  . rw [hd]; exact ownsRow_setCell_other d.hl (by simp [Value.ownBlock]; exact d.qr) _
  . exact ownsRow_setCell_other hr (by simpa using rp) _

set_option maxRecDepth 100000 in
set_option maxHeartbeats 1000000 in
theorem rturn_any (d : Ref S w r q lcap pv D) :
    Calls Tryz.prog 85 #[.pointer (some ⟨r, 0, none⟩)] w fun e w' => e = .returned (.bool D.tk.1) /\ Ref S w' r q lcap pv D.tk.2 /\ Only S w w' /\ w'.heap.size = w.heap.size := by
  have c2 := d.c2; have c3 := d.c3; have f2 := d.f 2; have f3 := d.f 3
  have b0 := d.ok.fuse0; have b1 := d.ok.fuse1
  by_cases hf : D.fused = false
  . have e : D.tk = (true, D) := by simp [DevS.tk, hf]
    rw [e]
    have er : D.rfu = -1 := by simp [DevS.rfu, hf]
    rw [er] at c2
    have HD := Lib.hid d; clear d e er hf
    go_enter Tryz.func85, Tryz.ntmps85
    go_wp2
    go_ret
    exact ⟨rfl, HD.out, Only.refl _ _, rfl⟩
  . have hft : D.fused = true := by simpa using hf
    have er : D.rfu = D.fuse := by simp [DevS.rfu, hft]
    rw [er] at c2
    by_cases h0 : D.fuse = 0
    . have e : D.tk = (false, { D with dead := true }) := by simp [DevS.tk, hft, h0]
      rw [e]
      rw [h0] at c2
      have hd' : Ref S (w.setCell ⟨r, 3, none⟩ (.bool true)) r q lcap pv { D with dead := true } :=
        d.put 3 _ _ pv ⟨d.ok.some, d.ok.few, d.ok.whole, d.ok.pends, d.ok.fuse0, d.ok.fuse1⟩ rfl rfl d.hr d.rp d.rq d.sr
      have HD := Lib.hid hd'; have HS := Lib.hid d.sp; clear d e er hd' hf hft h0
      go_enter Tryz.func85, Tryz.ntmps85
      go_wp2
      go_ret
      exact ⟨rfl, HD.out, (Only.refl _ _).setCell (fun _ => HS.out) _, by simp [World.setCell]⟩
    . have e : D.tk = (true, { D with fuse := D.fuse - 1 }) := by simp [DevS.tk, hft, h0]
      rw [e]
      have hd' : Ref S (w.setCell ⟨r, 2, none⟩ (.int .i64 (D.fuse - 1))) r q lcap pv { D with fuse := D.fuse - 1 } :=
        d.put 2 _ _ pv ⟨d.ok.some, d.ok.few, d.ok.whole, d.ok.pends, by simp; omega, by simp; omega⟩ rfl (by simp [DevS.rfu, hft]) d.hr d.rp d.rq d.sr
      have HD := Lib.hid hd'; have HS := Lib.hid d.sp
      have hz : (D.fuse == 0) = false := by simpa using h0
      have hp : 0 < D.fuse := by omega
      clear d e er hd' hf hft h0
      generalize D.fuse = fu at *
      go_enter Tryz.func85, Tryz.ntmps85
      go_wp2
      go_ret
      exact ⟨rfl, HD.out, (Only.refl _ _).setCell (fun _ => HS.out) _, by simp [World.setCell]⟩

def lastK (D : DevS) (j k : Nat) : ByteArray := match (D.pend.take k).reverse.find? (fun x => x.1 == j) with | some x => x.2 | none => D.disk.getD j ByteArray.empty
theorem take_snoc'' {α : Type} (L : List α) (k : Nat) (h : k < L.length) : L.take (k + 1) = L.take k ++ [L[k]] := by
  rw [List.take_succ_eq_append_getElem h]
theorem lastK_zero (D : DevS) (j : Nat) : lastK D j 0 = D.disk.getD j ByteArray.empty := rfl
theorem lastK_succ (D : DevS) (j k : Nat) (h : k < D.pend.length) : lastK D j (k + 1) = if D.pend[k].1 = j then D.pend[k].2 else lastK D j k := by
  unfold lastK
  rw [take_snoc'' D.pend k h, List.reverse_append]
  simp only [List.reverse_cons, List.reverse_nil, List.nil_append, List.singleton_append, List.find?_cons]
  by_cases e : D.pend[k].1 = j
  . simp [e]
  . have e' : (D.pend[k].1 == j) = false := by simpa using e
    simp [e, e']
theorem lastK_all (D : DevS) (j : Nat) : lastK D j D.pend.length = D.rdB j := by unfold lastK DevS.rdB; rw [List.take_length]; rfl

end
end Go.Proofs.YthambopnmhkeeaaGreat
/- What the document's device's Read and Write answer: the same as in plain lists. -/
namespace Go.Proofs.YthambopnmhkeeaaGreat
open Go.RowKit
section
variable {S : Nat -> Prop} {w w' : World} {r q lcap : Nat} {pv : Value} {D : DevS}

def RStands (S : Nat -> Prop) (w : World) (r : Nat) (D : DevS) : Prop := ∃ q lcap pv, Ref S w r q lcap pv D
def RLeaves (S : Nat -> Prop) (w w' : World) (r : Nat) (D' : DevS) : Prop :=
  ∃ S' : Nat -> Prop, (∀ k, S' k -> S k \/ w.heap.size <= k) /\ RStands S' w' r D' /\ Only S w w'
theorem RLeaves.mk {D : DevS} (d : RStands S w' r D) (h : Only S w w') : RLeaves S w w' r D := ⟨S, fun _ => .inl, d, h⟩
theorem RStands.kept {T : Nat -> Prop} (d : RStands S w r D) (h : Only T w w') (hT : ∀ k, S k -> ¬ T k) : RStands S w' r D := by
  obtain ⟨q, lcap, pv, d⟩ := d; exact ⟨q, lcap, pv, d.kept h hT⟩
theorem RStands.below (d : RStands S w r D) (h : Below w.heap.size w w') : RStands S w' r D :=
  d.kept (Only.of_below (fun _ => False) h (Nat.le_refl _)) (fun _ _ f => f)
theorem RStands.ok (d : RStands S w r D) : D.Ok := by obtain ⟨q, lcap, pv, d⟩ := d; exact d.ok
theorem RStands.lt (d : RStands S w r D) : ∀ k, S k -> k < w.heap.size := by obtain ⟨q, lcap, pv, d⟩ := d; exact d.lt

set_option maxRecDepth 100000 in
set_option maxHeartbeats 1000000 in
theorem rread_no (i : Int) (hck : D.ck i ≠ 0) (d : Ref S w r q lcap pv D) :
    Calls Tryz.prog 138 #[.pointer (some ⟨r, 0, none⟩), .int .i64 i] w fun e w' => e = .returned (.tuple #[.string ByteArray.empty, .int .i64 (D.ck i)]) /\ w = w' := by
  have c0 := d.c0; have c3 := d.c3; have hn := d.ok.few
  clear d
  by_cases hde : D.dead = true
  . have e : D.ck i = 4 := by simp [DevS.ck, hde]
    rw [e]
    rw [hde] at c3
    clear hck e hde
    generalize D.disk.length = n at *
    go_enter Tryz.func138, Tryz.ntmps138
    go_wp2
    go_ret2
    exact ⟨rfl, rfl⟩
  . have hdf : D.dead = false := by simpa using hde
    have h : i < 0 \/ (0 <= i /\ (D.disk.length : Int) <= i) := by
      unfold DevS.ck at hck; rw [hdf] at hck; simp at hck; omega
    have e : D.ck i = 2 := by unfold DevS.ck; rw [hdf, if_neg (by simp), if_pos (by omega)]
    rw [e]
    rw [hdf] at c3
    clear hck e hde hdf
    generalize D.disk.length = n at *
    rcases h with h | ⟨h, h'⟩
    all_goals
      go_enter Tryz.func138, Tryz.ntmps138
      go_wp2
      go_ret2
      exact ⟨rfl, rfl⟩

set_option maxRecDepth 100000 in
set_option maxHeartbeats 2000000 in
theorem rread_yes (j n : Nat) (hn : D.pend.length = n) (hb : n <= 1000000) (hde : D.dead = false) (hj : j < D.disk.length) (d : Ref S w r q lcap pv D) :
    Calls Tryz.prog 138 #[.pointer (some ⟨r, 0, none⟩), .int .i64 j] w fun e w' => e = .returned (.tuple #[.string (D.rdB j), .int .i64 0]) /\ w = w' := by
  have c0 := d.c0; have c1 := d.c1; have c3 := d.c3; have cq := d.cq j hj; have hfew := d.ok.few
  rw [hde] at c3
  obtain ⟨ao, cap, hpv⟩ := own_shape d.hr
  rw [hn] at hpv
  have HD := Lib.hid d; have HN := Lib.hid hn
  have HZ := Lib.hid (lastK_zero D j)
  have HAll : Hid (lastK D j n = D.rdB j) := by show _ = _; rw [<- hn]; exact lastK_all D j
  clear d hn hde
  subst hpv
  generalize D.disk.length = nd at *
  rw [<- HZ.out] at cq
  go_enter Tryz.func138, Tryz.ntmps138
  go_wp2_with fail
  go_loop [6, 7] (fun sv iv => ∃ k : Nat, k <= n /\ iv = .int .i64 k /\ sv = .string (lastK D j k)) (fun _ iv => n - (intOf iv).toNat)
  case atStart => exact ⟨0, Nat.zero_le _, rfl, rfl⟩
  case round =>
    obtain ⟨k, hk, rfl, rfl⟩ := hrel
    by_cases hlt : k < n
    . have hkp : k < D.pend.length := by rw [HN.out]; exact hlt
      obtain ⟨b, e⟩ : ∃ b, ao = some ⟨b, 0, none⟩ := by
        rcases HD.out.hr.2 with ⟨h1, h2⟩ | ⟨g, cap', cur, h1, _⟩
        . rw [HN.out] at h2; omega
        . simp at h1; exact ⟨g, h1.1⟩
      subst e
      obtain ⟨d0, d1⟩ := HD.out.cr k hkp
      have HS := Lib.hid (lastK_succ D j k hkp)
      generalize D.pend[k] = x at *
      obtain ⟨xb, xs⟩ := x
      simp only at d0 d1 HS
      clear hkp
      by_cases e : xb = j
      . have e' : ((xb : Int) == (j : Int)) = true := by simp [e]
        have HE : Hid (lastK D j (k + 1) = xs) := by show _ = _; rw [HS.out, if_pos e]
        clear e HS
        generalize lastK D j k = T at *
        go_wp2
        go_round
        case rel => exact ⟨k + 1, by omega, by go_num, by rw [HE.out]⟩
        case measure => simp [intOf]; omega
      . have e' : ((xb : Int) == (j : Int)) = false := by simp; omega
        have HE : Hid (lastK D j (k + 1) = lastK D j k) := by show _ = _; rw [HS.out, if_neg e]
        clear e HS
        go_wp2
        go_round
        case rel => exact ⟨k + 1, by omega, by go_num, by rw [HE.out]⟩
        case measure => simp [intOf]; omega
    . have hkn : k = n := by omega
      subst hkn
      go_wp2
      go_ret2
      exact ⟨by rw [<- HAll.out]; rfl, rfl⟩

theorem rread_any (i : Int) (hl : D.pend.length <= 1000000) (d : RStands S w r D) :
    Calls Tryz.prog 138 #[.pointer (some ⟨r, 0, none⟩), .int .i64 i] w fun e w' => e = .returned (.tuple #[.string (D.rd i).1, .int .i64 (D.rd i).2]) /\ w = w' := by
  obtain ⟨q, lcap, pv, d⟩ := d
  by_cases h1 : D.ck i = 0
  . have hk : D.dead = false /\ 0 <= i /\ i < D.disk.length := by
      unfold DevS.ck at h1
      split at h1
      . omega
      . split at h1
        . omega
        . exact ⟨by simp_all, by omega, by omega⟩
    obtain ⟨j, rfl⟩ := Int.eq_ofNat_of_zero_le hk.2.1
    have e : D.rd j = (D.rdB j, 0) := by simp [DevS.rd, h1]
    rw [e]
    exact rread_yes j _ rfl hl hk.1 (by omega) d
  . have e : D.rd i = (ByteArray.empty, D.ck i) := by simp [DevS.rd, h1]
    rw [e]
    exact rread_no i h1 d

end
end Go.Proofs.YthambopnmhkeeaaGreat
