/- The document's own device of chapter 1 in memory, and what its turn, Fuse and Read answer: the same as in plain lists. -/
import Derived.Test.YtlikbfdfaccekaaOthers1
namespace Go.Proofs.Ytlikbfdfaccekaa
open Go.RowKit

/-- The fuse's number, as the document's device keeps it. -/
def DevS.rfu (D : DevS) : Int := if D.fused then D.fuse else -1

/-- Block r is the document's device, and says D; S: the blocks that are its own. -/
structure Ref (S : Nat → Prop) (w : World) (r q lcap : Nat) (pv : Value) (D : DevS) : Prop where
  ok : D.Ok
  hp : w.heap[r]? = some (.cells #[.slice (some ⟨q, 0, none⟩) D.disk.length lcap, pv, .int .i64 D.rfu, .bool D.dead] 42 (0, 0))
  hl : w.ownsRow 0 9 1 (.slice (some ⟨q, 0, none⟩) D.disk.length lcap) D.disk.length (D.disk.map Value.string)
  hr : w.ownsRow 0 62 2 pv D.pend.length (flatW D.pend)
  qr : q ≠ r
  rp : pv.ownBlock ≠ some r
  rq : pv.ownBlock ≠ some q
  sp : S r
  sq : S q
  sr : ∀ k, pv.ownBlock = some k → S k
  lt : ∀ k, S k → k < w.heap.size

theorem own_kept {T : Nat → Prop} {w w' : World} {base : Nat} {e : TypeId} {size n : Nat} {v : Value} {xs : List Value} (h : w.ownsRow base e size v n xs) (ho : Only T w w') (hT : ∀ k, v.ownBlock = some k → ¬ T k) : w'.ownsRow base e size v n xs := by
  refine ⟨h.1, ?_⟩
  rcases h.2 with h' | ⟨g, cap, cur, rfl, h2, h3, h4⟩
  · exact .inl h'
  · exact .inr ⟨g, cap, cur, rfl, h2, by rw [ho.block g (Array.getElem?_eq_some_iff.1 h3).1 (hT g rfl)]; exact h3, h4⟩

section
variable {S : Nat → Prop} {w w' : World} {r q lcap : Nat} {pv : Value} {D : DevS}
theorem Ref.kept {T : Nat → Prop} (d : Ref S w r q lcap pv D) (h : Only T w w') (hT : ∀ k, S k → ¬ T k) : Ref S w' r q lcap pv D :=
  ⟨d.ok, by rw [h.block r (d.lt r d.sp) (hT r d.sp)]; exact d.hp, own_kept d.hl h (fun k hk => by cases hk; exact hT q d.sq), own_kept d.hr h (fun k hk => hT k (d.sr k hk)), d.qr, d.rp, d.rq, d.sp, d.sq, d.sr, fun k hk => Nat.lt_of_lt_of_le (d.lt k hk) h.size⟩
theorem Ref.c0 (d : Ref S w r q lcap pv D) : w.cell? ⟨r, 0, none⟩ = some (.slice (some ⟨q, 0, none⟩) D.disk.length lcap) := by rw [cell_at d.hp]; rfl
theorem Ref.c1 (d : Ref S w r q lcap pv D) : w.cell? ⟨r, 1, none⟩ = some pv := by rw [cell_at d.hp]; rfl
theorem Ref.c2 (d : Ref S w r q lcap pv D) : w.cell? ⟨r, 2, none⟩ = some (.int .i64 D.rfu) := by rw [cell_at d.hp]; rfl
theorem Ref.c3 (d : Ref S w r q lcap pv D) : w.cell? ⟨r, 3, none⟩ = some (.bool D.dead) := by rw [cell_at d.hp]; rfl
theorem Ref.f (d : Ref S w r q lcap pv D) (i : Nat) : w.frozen? ⟨r, i, none⟩ = false := free_at d.hp i
theorem Ref.cq (d : Ref S w r q lcap pv D) (i : Nat) (hi : i < D.disk.length) : w.cell? ⟨q, i, none⟩ = some (.string (D.disk.getD i ByteArray.empty)) := by
  rw [World.ownsRow.cellAt d.hl i (by omega)]; simp [hi]
theorem Ref.fq (d : Ref S w r q lcap pv D) (i : Nat) : w.frozen? ⟨q, i, none⟩ = false := World.ownsRow.frozenAt d.hl i
theorem Ref.cr {b cap n : Nat} (d : Ref S w r q lcap (.slice (some ⟨b, 0, none⟩) n cap) D) (k : Nat) (hk : k < D.pend.length) :
    w.cell? ⟨b, k * 2, none⟩ = some (.int .i64 (D.pend[k]).1) ∧ w.cell? ⟨b, k * 2 + 1, none⟩ = some (.string (D.pend[k]).2) := by
  have h := d.hr.cells (g := b) rfl
  have hadd : ∀ j, (⟨b, 0, none⟩ : Addr).add j = ⟨b, j, none⟩ := fun j => by unfold Addr.add; split <;> simp_all
  have h0 := h (k * 2) _ (flatW_fst D.pend k hk)
  have h1 := h (k * 2 + 1) _ (flatW_snd D.pend k hk)
  rw [hadd] at h0 h1
  exact ⟨h0, h1⟩

/-- A store into one of its own four cells. -/
theorem Ref.put (d : Ref S w r q lcap pv D) (i : Nat) (v : Value) (D' : DevS) (pv' : Value) (ok : D'.Ok) (hd : D'.disk = D.disk)
    (hc : (#[.slice (some ⟨q, 0, none⟩) D.disk.length lcap, pv, .int .i64 D.rfu, .bool D.dead] : Array Value).setIfInBounds i v = #[.slice (some ⟨q, 0, none⟩) D.disk.length lcap, pv', .int .i64 D'.rfu, .bool D'.dead])
    (hr : w.ownsRow 0 62 2 pv' D'.pend.length (flatW D'.pend)) (rp : pv'.ownBlock ≠ some r) (rq : pv'.ownBlock ≠ some q) (sr : ∀ k, pv'.ownBlock = some k → S k) :
    Ref S (w.setCell ⟨r, i, none⟩ v) r q lcap pv' D' := by
  refine ⟨ok, ?_, ?_, ?_, d.qr, rp, rq, d.sp, d.sq, sr, fun k hk => by simpa [World.setCell] using d.lt k hk⟩
  · rw [heap_setCell_at d.hp, hc, hd]
  · rw [hd]; exact ownsRow_setCell_other d.hl (by simp [Value.ownBlock]; exact d.qr) _
  · exact ownsRow_setCell_other hr (by simpa using rp) _

set_option maxHeartbeats 1000000 in
theorem rturn_any (d : Ref S w r q lcap pv D) :
    Calls Try.prog 51 #[.pointer (some ⟨r, 0, none⟩)] w fun e w' => e = .returned (.bool D.tk.1) ∧ Ref S w' r q lcap pv D.tk.2 ∧ Only S w w' ∧ w'.heap.size = w.heap.size := by
  have c2 := d.c2; have c3 := d.c3; have f2 := d.f 2; have f3 := d.f 3
  have b0 := d.ok.fuse0; have b1 := d.ok.fuse1
  by_cases hf : D.fused = false
  · have e : D.tk = (true, D) := by simp [DevS.tk, hf]
    rw [e]
    have er : D.rfu = -1 := by simp [DevS.rfu, hf]
    rw [er] at c2
    have HD := Lib.hid d; clear d e er hf
    go_enter Try.func51, Try.ntmps51
    go_wp2
    go_ret
    exact ⟨rfl, HD.out, Only.refl _ _, rfl⟩
  · have hft : D.fused = true := by simpa using hf
    have er : D.rfu = D.fuse := by simp [DevS.rfu, hft]
    rw [er] at c2
    by_cases h0 : D.fuse = 0
    · have e : D.tk = (false, { D with dead := true }) := by simp [DevS.tk, hft, h0]
      rw [e]
      rw [h0] at c2
      have hd' : Ref S (w.setCell ⟨r, 3, none⟩ (.bool true)) r q lcap pv { D with dead := true } :=
        d.put 3 _ _ pv ⟨d.ok.some, d.ok.few, d.ok.whole, d.ok.pends, d.ok.fuse0, d.ok.fuse1⟩ rfl rfl d.hr d.rp d.rq d.sr
      have HD := Lib.hid hd'; have HS := Lib.hid d.sp; clear d e er hd' hf hft h0
      go_enter Try.func51, Try.ntmps51
      go_wp2
      go_ret
      exact ⟨rfl, HD.out, (Only.refl _ _).setCell (fun _ => HS.out) _, by simp [World.setCell]⟩
    · have e : D.tk = (true, { D with fuse := D.fuse - 1 }) := by simp [DevS.tk, hft, h0]
      rw [e]
      have hd' : Ref S (w.setCell ⟨r, 2, none⟩ (.int .i64 (D.fuse - 1))) r q lcap pv { D with fuse := D.fuse - 1 } :=
        d.put 2 _ _ pv ⟨d.ok.some, d.ok.few, d.ok.whole, d.ok.pends, by simp; omega, by simp; omega⟩ rfl (by simp [DevS.rfu, hft]) d.hr d.rp d.rq d.sr
      have HD := Lib.hid hd'; have HS := Lib.hid d.sp
      have hz : (D.fuse == 0) = false := by simpa using h0
      have hp : 0 < D.fuse := by omega
      clear d e er hd' hf hft h0
      generalize D.fuse = fu at *
      go_enter Try.func51, Try.ntmps51
      go_wp2
      go_ret
      exact ⟨rfl, HD.out, (Only.refl _ _).setCell (fun _ => HS.out) _, by simp [World.setCell]⟩

set_option maxHeartbeats 1000000 in
theorem rfuse_any (n : Int) (hn : n ≤ 9223372036854775807) (d : Ref S w r q lcap pv D) :
    Calls Try.prog 35 #[.pointer (some ⟨r, 0, none⟩), .int .i64 n] w fun e w' => e = .returned (.tuple #[]) ∧ Ref S w' r q lcap pv (D.setFuse n) ∧ Only S w w' := by
  have c2 := d.c2; have f2 := d.f 2
  have er : (D.setFuse n).rfu = max n (-1) := by
    unfold DevS.rfu DevS.setFuse
    by_cases h : 0 ≤ n
    · simp [h]; omega
    · simp [h]; omega
  have hd' : Ref S (w.setCell ⟨r, 2, none⟩ (.int .i64 (max n (-1)))) r q lcap pv (D.setFuse n) :=
    d.put 2 _ _ pv (d.ok.setFuse n hn) rfl (by rw [er]; rfl) d.hr d.rp d.rq d.sr
  have HD := Lib.hid hd'; have HS := Lib.hid d.sp
  clear d er hd'
  go_enter Try.func35, Try.ntmps35
  go_wp2
  go_end0
  exact ⟨rfl, HD.out, (Only.refl _ _).setCell (fun _ => HS.out) _⟩

/-- Of the first k pending writes the last one of block j, or what lies there. -/
def lastK (D : DevS) (j k : Nat) : ByteArray := match (D.pend.take k).reverse.find? (fun x => x.1 == j) with | some x => x.2 | none => D.disk.getD j ByteArray.empty
theorem lastK_zero (D : DevS) (j : Nat) : lastK D j 0 = D.disk.getD j ByteArray.empty := rfl
theorem lastK_succ (D : DevS) (j k : Nat) (h : k < D.pend.length) : lastK D j (k + 1) = if D.pend[k].1 = j then D.pend[k].2 else lastK D j k := by
  unfold lastK
  rw [take_snoc' D.pend k h, List.reverse_append]
  simp only [List.reverse_cons, List.reverse_nil, List.nil_append, List.singleton_append, List.find?_cons]
  by_cases e : D.pend[k].1 = j
  · simp [e]
  · have e' : (D.pend[k].1 == j) = false := by simpa using e
    simp [e, e']
theorem lastK_all (D : DevS) (j : Nat) : lastK D j D.pend.length = D.rdB j := by unfold lastK DevS.rdB; rw [List.take_length]; rfl

end
end Go.Proofs.Ytlikbfdfaccekaa
