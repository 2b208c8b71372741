/- The device's methods over one device of the call's own: what was there when the call began is never touched. -/
import Derived.Test.YtepfcaopboenpaaGreatZSettle
import Derived.Test.YtepfcaopboenpaaGreatZNewD

namespace Go.Proofs.YtepfcaopboenpaaGreat
open Go.RowKit

/-- Behind world w0 block p is a device that says D; what was there in w0 is as it was. -/
def At (w0 w : World) (p : Nat) (D : DevS) : Prop := ∃ S : Nat → Prop, (∀ k, S k → w0.heap.size ≤ k) ∧ Stands S w p D ∧ Below w0.heap.size w0 w

section
variable {w0 w w' : World} {p : Nat} {D : DevS}

theorem At.bel (h : At w0 w p D) : Below w0.heap.size w0 w := by obtain ⟨S, _, _, hb⟩ := h; exact hb
theorem At.ok (h : At w0 w p D) : D.Ok := by obtain ⟨S, _, hs, _⟩ := h; exact hs.ok
theorem At.below (h : At w0 w p D) (hb : Below w.heap.size w w') : At w0 w' p D := by
  obtain ⟨S, hS, hs, h0⟩ := h
  exact ⟨S, hS, hs.below hb, h0.trans (hb.mono h0.size)⟩
theorem At.of_fresh {w0 w w' : World} (hb : Below w0.heap.size w0 w) (h : Fresh w w' p D) : At w0 w' p D := by
  obtain ⟨S, hS, hs, hb'⟩ := h
  exact ⟨S, fun k hk => Nat.le_trans hb.size (hS k hk), hs, hb.trans (hb'.mono hb.size)⟩
theorem At.leaves {S : Nat → Prop} {D' : DevS} (hS : ∀ k, S k → w0.heap.size ≤ k) (h0 : Below w0.heap.size w0 w) (h : Leaves S w w' p D') : At w0 w' p D' := by
  obtain ⟨S', hS', hs, ho⟩ := h
  refine ⟨S', fun k hk => ?_, hs, h0.trans (ho.below h0.size (fun k _ hk => hS k hk))⟩
  rcases hS' k hk with h | h
  · exact hS k h
  · exact Nat.le_trans h0.size h

theorem At.new (n : Int) (h : 1 ≤ n ∧ n ≤ 4096) (hb : Below w0.heap.size w0 w) :
    Calls Tryz.prog 24 #[.int .i64 n] w fun e w' => ∃ p, e = .returned (.tuple #[.pointer (some ⟨p, 0, none⟩), .int .i64 0]) ∧ At w0 w' p (DevS.made n.toNat) :=
  (new_any n w h).mono fun _ _ ⟨p, he, hf⟩ => ⟨p, he, .of_fresh hb hf⟩
theorem At.read (i : Int) (hl : D.pend.length ≤ 1000000) (h : At w0 w p D) :
    Calls Tryz.prog 29 #[.pointer (some ⟨p, 0, none⟩), .int .i64 i] w fun e w' => e = .returned (.tuple #[.string (D.rd i).1, .int .i64 (D.rd i).2]) ∧ At w0 w' p D := by
  have h' := h
  obtain ⟨S, hS, hs, h0⟩ := h
  exact (read_any i hl hs).mono fun _ _ ⟨he, hb⟩ => ⟨he, h'.below hb⟩
theorem At.write (i : Int) (s : ByteArray) (hl : D.pend.length ≤ 1000000) (h : At w0 w p D) :
    Calls Tryz.prog 85 #[.pointer (some ⟨p, 0, none⟩), .int .i64 i, .string s] w fun e w' => e = .returned (.int .i64 (D.wr i s).1) ∧ At w0 w' p (D.wr i s).2 := by
  obtain ⟨S, hS, hs, h0⟩ := h
  exact (write_any i s hl hs).mono fun _ _ ⟨he, hv⟩ => ⟨he, .leaves hS h0 hv⟩
theorem At.flush (hl : D.pend.length ≤ 1000000) (h : At w0 w p D) :
    Calls Tryz.prog 77 #[.pointer (some ⟨p, 0, none⟩)] w fun e w' => e = .returned (.int .i64 D.fl.1) ∧ At w0 w' p D.fl.2 := by
  obtain ⟨S, hS, hs, h0⟩ := h
  exact (flush_any hl hs).mono fun _ _ ⟨he, h1, h2⟩ => ⟨he, .leaves hS h0 (.mk h1 h2)⟩
theorem At.fuse (n : Int) (hn : n ≤ 9223372036854775807) (h : At w0 w p D) :
    Calls Tryz.prog 38 #[.pointer (some ⟨p, 0, none⟩), .int .i64 n] w fun e w' => e = .returned (.tuple #[]) ∧ At w0 w' p (D.setFuse n) := by
  obtain ⟨S, hS, hs, h0⟩ := h
  exact (fuse_any n hn hs).mono fun _ _ ⟨he, h1, h2⟩ => ⟨he, .leaves hS h0 (.mk h1 h2)⟩
/-- A slice of bools that lies below w0's end, or in a block of one's own that is no device's. -/
def BoolsOut (w0 w : World) (v : Value) (kl : List Bool) : Prop :=
  ∃ ao cap, v = .slice ao kl.length cap ∧ (kl = [] ∨ ∃ g off, ao = some ⟨g, off, none⟩ ∧ g < w0.heap.size ∧ ∀ i (h : i < kl.length), w.cell? ⟨g, off + i, none⟩ = some (.bool kl[i]))
theorem At.crash (kl : List Bool) (torn cut : Int) (v : Value) (hl : D.pend.length ≤ 1000000) (hkl : kl.length ≤ 9223372036854775807) (h : At w0 w p D) (hv : BoolsOut w0 w v kl) :
    Calls Tryz.prog 39 #[.pointer (some ⟨p, 0, none⟩), v, .int .i64 torn, .int .i64 cut] w fun e w' => e = .returned (.tuple #[]) ∧ At w0 w' p (D.crash kl torn cut) := by
  obtain ⟨S, hS, hs, h0⟩ := h
  have hv' : Bools S w v kl := by
    obtain ⟨ao, cap, hv, h⟩ := hv
    refine ⟨ao, cap, hv, ?_⟩
    rcases h with h | ⟨g, off, ha, hg, hc⟩
    · exact .inl h
    · exact .inr ⟨g, off, ha, fun hs => by have := hS g hs; omega, hc⟩
  exact (crash_any kl torn cut v hl hkl hs hv').mono fun _ _ ⟨he, h1, h2⟩ => ⟨he, .leaves hS h0 (.mk h1 h2)⟩
/-- A crash whose list of one bool was made for it. -/
theorem At.crash_one (b : Bool) (torn cut : Int) (hl : D.pend.length ≤ 1000000) (h : At w0 w p D) :
    Calls Tryz.prog 39 #[.pointer (some ⟨p, 0, none⟩), .slice (some ⟨w.heap.size, 0, none⟩) 1 1, .int .i64 torn, .int .i64 cut] (w.alloc (.cells #[.bool b] 4)) fun e w' => e = .returned (.tuple #[]) ∧ At w0 w' p (D.crash [b] torn cut) := by
  obtain ⟨S, hS, hs, h0⟩ := h
  have hlt := hs.lt
  have hb : Below w.heap.size w (w.alloc (.cells #[.bool b] 4)) := (Below.refl _ _).alloc (Nat.le_refl _) _
  have hv' : Bools S (w.alloc (.cells #[.bool b] 4)) (.slice (some ⟨w.heap.size, 0, none⟩) 1 1) [b] := by
    refine ⟨_, 1, rfl, .inr ⟨w.heap.size, 0, rfl, fun hs => by have := hlt _ hs; omega, ?_⟩⟩
    intro i hi
    have : i = 0 := by simpa using hi
    subst this
    rw [cell_at (heap_alloc_new w _)]; rfl
  exact (crash_any [b] torn cut _ hl (by simp) (hs.below hb) hv').mono fun _ _ ⟨he, h1, h2⟩ => ⟨he, .leaves hS (h0.trans (hb.mono h0.size)) (.mk h1 h2)⟩
theorem At.blocks (h : At w0 w p D) :
    Calls Tryz.prog 49 #[.pointer (some ⟨p, 0, none⟩)] w fun e w' => e = .returned (.int .i64 D.disk.length) ∧ w = w' := by
  obtain ⟨S, hS, hs, h0⟩ := h; exact blocks_any hs
theorem At.disk (h : At w0 w p D) :
    Calls Tryz.prog 22 #[.pointer (some ⟨p, 0, none⟩)] w fun e w' => ∃ v, e = .returned v ∧ w'.ownsRow w.heap.size 9 1 v D.disk.length (D.disk.map Value.string) ∧ Below w.heap.size w w' ∧ At w0 w' p D := by
  have h' := h
  obtain ⟨S, hS, hs, h0⟩ := h
  exact (disk_any hs).mono fun _ _ ⟨v, he, h1, h2⟩ => ⟨v, he, h1, h2, h'.below h2⟩
end
end Go.Proofs.YtepfcaopboenpaaGreat
/- The document's own device of chapter 1 in memory, and what its turn, Fuse and Read answer: the same as in plain lists. -/
namespace Go.Proofs.YtepfcaopboenpaaGreat
open Go.RowKit

/-- The fuse's number, as the document's device keeps it. -/
def DevS.rfu (D : DevS) : Int := if D.fused then D.fuse else -1

/-- Block r is the document's device, and says D; S: the blocks that are its own. -/
structure Ref (S : Nat → Prop) (w : World) (r q lcap : Nat) (pv : Value) (D : DevS) : Prop where
  ok : D.Ok
  hp : w.heap[r]? = some (.cells #[.slice (some ⟨q, 0, none⟩) D.disk.length lcap, pv, .int .i64 D.rfu, .bool D.dead] 63 (0, 0))
  hl : w.ownsRow 0 9 1 (.slice (some ⟨q, 0, none⟩) D.disk.length lcap) D.disk.length (D.disk.map Value.string)
  hr : w.ownsRow 0 73 2 pv D.pend.length (flatW D.pend)
  qr : q ≠ r
  rp : pv.ownBlock ≠ some r
  rq : pv.ownBlock ≠ some q
  sp : S r
  sq : S q
  sr : ∀ k, pv.ownBlock = some k → S k
  lt : ∀ k, S k → k < w.heap.size

theorem own_kept {T : Nat → Prop} {w w' : World} {base : Nat} {e : TypeId} {size n : Nat} {v : Value} {xs : List Value} (h : w.ownsRow base e size v n xs) (ho : Only T w w') (hT : ∀ k, v.ownBlock = some k → ¬ T k) : w'.ownsRow base e size v n xs := by
  refine ⟨h.1, ?_⟩
  rcases h.2 with h' | ⟨g, cap, cur, rfl, h2, h3, h4⟩
  · exact .inl h'
  · exact .inr ⟨g, cap, cur, rfl, h2, by rw [ho.block g (Array.getElem?_eq_some_iff.1 h3).1 (hT g rfl)]; exact h3, h4⟩

section
variable {S : Nat → Prop} {w w' : World} {r q lcap : Nat} {pv : Value} {D : DevS}
theorem Ref.kept {T : Nat → Prop} (d : Ref S w r q lcap pv D) (h : Only T w w') (hT : ∀ k, S k → ¬ T k) : Ref S w' r q lcap pv D :=
  ⟨d.ok, by rw [h.block r (d.lt r d.sp) (hT r d.sp)]; exact d.hp, own_kept d.hl h (fun k hk => by cases hk; exact hT q d.sq), own_kept d.hr h (fun k hk => hT k (d.sr k hk)), d.qr, d.rp, d.rq, d.sp, d.sq, d.sr, fun k hk => Nat.lt_of_lt_of_le (d.lt k hk) h.size⟩
theorem Ref.c0 (d : Ref S w r q lcap pv D) : w.cell? ⟨r, 0, none⟩ = some (.slice (some ⟨q, 0, none⟩) D.disk.length lcap) := by rw [cell_at d.hp]; rfl
theorem Ref.c1 (d : Ref S w r q lcap pv D) : w.cell? ⟨r, 1, none⟩ = some pv := by rw [cell_at d.hp]; rfl
theorem Ref.c2 (d : Ref S w r q lcap pv D) : w.cell? ⟨r, 2, none⟩ = some (.int .i64 D.rfu) := by rw [cell_at d.hp]; rfl
theorem Ref.c3 (d : Ref S w r q lcap pv D) : w.cell? ⟨r, 3, none⟩ = some (.bool D.dead) := by rw [cell_at d.hp]; rfl
theorem Ref.f (d : Ref S w r q lcap pv D) (i : Nat) : w.frozen? ⟨r, i, none⟩ = false := free_at d.hp i
theorem Ref.cq (d : Ref S w r q lcap pv D) (i : Nat) (hi : i < D.disk.length) : w.cell? ⟨q, i, none⟩ = some (.string (D.disk.getD i ByteArray.empty)) := by
  rw [World.ownsRow.cellAt d.hl i (by omega)]; simp [hi]
theorem Ref.fq (d : Ref S w r q lcap pv D) (i : Nat) : w.frozen? ⟨q, i, none⟩ = false := World.ownsRow.frozenAt d.hl i
theorem Ref.cr {b cap n : Nat} (d : Ref S w r q lcap (.slice (some ⟨b, 0, none⟩) n cap) D) (k : Nat) (hk : k < D.pend.length) :
    w.cell? ⟨b, k * 2, none⟩ = some (.int .i64 (D.pend[k]).1) ∧ w.cell? ⟨b, k * 2 + 1, none⟩ = some (.string (D.pend[k]).2) := by
  have h := d.hr.cells (g := b) rfl
  have hadd : ∀ j, (⟨b, 0, none⟩ : Addr).add j = ⟨b, j, none⟩ := fun j => by unfold Addr.add; split <;> simp_all
  have h0 := h (k * 2) _ (flatW_fst D.pend k hk)
  have h1 := h (k * 2 + 1) _ (flatW_snd D.pend k hk)
  rw [hadd] at h0 h1
  exact ⟨h0, h1⟩

/-- A store into one of its own four cells. -/
theorem Ref.put (d : Ref S w r q lcap pv D) (i : Nat) (v : Value) (D' : DevS) (pv' : Value) (ok : D'.Ok) (hd : D'.disk = D.disk)
    (hc : (#[.slice (some ⟨q, 0, none⟩) D.disk.length lcap, pv, .int .i64 D.rfu, .bool D.dead] : Array Value).setIfInBounds i v = #[.slice (some ⟨q, 0, none⟩) D.disk.length lcap, pv', .int .i64 D'.rfu, .bool D'.dead])
    (hr : w.ownsRow 0 73 2 pv' D'.pend.length (flatW D'.pend)) (rp : pv'.ownBlock ≠ some r) (rq : pv'.ownBlock ≠ some q) (sr : ∀ k, pv'.ownBlock = some k → S k) :
    Ref S (w.setCell ⟨r, i, none⟩ v) r q lcap pv' D' := by
  refine ⟨ok, ?_, ?_, ?_, d.qr, rp, rq, d.sp, d.sq, sr, fun k hk => by simpa [World.setCell] using d.lt k hk⟩
  · rw [heap_setCell_at d.hp, hc, hd]
  · rw [hd]; exact ownsRow_setCell_other d.hl (by simp [Value.ownBlock]; exact d.qr) _
  · exact ownsRow_setCell_other hr (by simpa using rp) _

set_option maxRecDepth 100000 in
set_option maxHeartbeats 1000000 in
theorem rturn_any (d : Ref S w r q lcap pv D) :
    Calls Tryz.prog 61 #[.pointer (some ⟨r, 0, none⟩)] w fun e w' => e = .returned (.bool D.tk.1) ∧ Ref S w' r q lcap pv D.tk.2 ∧ Only S w w' ∧ w'.heap.size = w.heap.size := by
  have c2 := d.c2; have c3 := d.c3; have f2 := d.f 2; have f3 := d.f 3
  have b0 := d.ok.fuse0; have b1 := d.ok.fuse1
  by_cases hf : D.fused = false
  · have e : D.tk = (true, D) := by simp [DevS.tk, hf]
    rw [e]
    have er : D.rfu = -1 := by simp [DevS.rfu, hf]
    rw [er] at c2
    have HD := Lib.hid d; clear d e er hf
    go_enter Tryz.func61, Tryz.ntmps61
    go_wp2
    go_ret
    exact ⟨rfl, HD.out, Only.refl _ _, rfl⟩
  · have hft : D.fused = true := by simpa using hf
    have er : D.rfu = D.fuse := by simp [DevS.rfu, hft]
    rw [er] at c2
    by_cases h0 : D.fuse = 0
    · have e : D.tk = (false, { D with dead := true }) := by simp [DevS.tk, hft, h0]
      rw [e]
      rw [h0] at c2
      have hd' : Ref S (w.setCell ⟨r, 3, none⟩ (.bool true)) r q lcap pv { D with dead := true } :=
        d.put 3 _ _ pv ⟨d.ok.some, d.ok.few, d.ok.whole, d.ok.pends, d.ok.fuse0, d.ok.fuse1⟩ rfl rfl d.hr d.rp d.rq d.sr
      have HD := Lib.hid hd'; have HS := Lib.hid d.sp; clear d e er hd' hf hft h0
      go_enter Tryz.func61, Tryz.ntmps61
      go_wp2
      go_ret
      exact ⟨rfl, HD.out, (Only.refl _ _).setCell (fun _ => HS.out) _, by simp [World.setCell]⟩
    · have e : D.tk = (true, { D with fuse := D.fuse - 1 }) := by simp [DevS.tk, hft, h0]
      rw [e]
      have hd' : Ref S (w.setCell ⟨r, 2, none⟩ (.int .i64 (D.fuse - 1))) r q lcap pv { D with fuse := D.fuse - 1 } :=
        d.put 2 _ _ pv ⟨d.ok.some, d.ok.few, d.ok.whole, d.ok.pends, by simp; omega, by simp; omega⟩ rfl (by simp [DevS.rfu, hft]) d.hr d.rp d.rq d.sr
      have HD := Lib.hid hd'; have HS := Lib.hid d.sp
      have hz : (D.fuse == 0) = false := by simpa using h0
      have hp : 0 < D.fuse := by omega
      clear d e er hd' hf hft h0
      generalize D.fuse = fu at *
      go_enter Tryz.func61, Tryz.ntmps61
      go_wp2
      go_ret
      exact ⟨rfl, HD.out, (Only.refl _ _).setCell (fun _ => HS.out) _, by simp [World.setCell]⟩

/-- Of the first k pending writes the last one of block j, or what lies there. -/
def lastK (D : DevS) (j k : Nat) : ByteArray := match (D.pend.take k).reverse.find? (fun x => x.1 == j) with | some x => x.2 | none => D.disk.getD j ByteArray.empty
theorem take_snoc'' {α : Type} (L : List α) (k : Nat) (h : k < L.length) : L.take (k + 1) = L.take k ++ [L[k]] := by
  rw [List.take_succ_eq_append_getElem h]
theorem lastK_zero (D : DevS) (j : Nat) : lastK D j 0 = D.disk.getD j ByteArray.empty := rfl
theorem lastK_succ (D : DevS) (j k : Nat) (h : k < D.pend.length) : lastK D j (k + 1) = if D.pend[k].1 = j then D.pend[k].2 else lastK D j k := by
  unfold lastK
  rw [take_snoc'' D.pend k h, List.reverse_append]
  simp only [List.reverse_cons, List.reverse_nil, List.nil_append, List.singleton_append, List.find?_cons]
  by_cases e : D.pend[k].1 = j
  · simp [e]
  · have e' : (D.pend[k].1 == j) = false := by simpa using e
    simp [e, e']
theorem lastK_all (D : DevS) (j : Nat) : lastK D j D.pend.length = D.rdB j := by unfold lastK DevS.rdB; rw [List.take_length]; rfl

end
end Go.Proofs.YtepfcaopboenpaaGreat
/- What the document's device's Read and Write answer: the same as in plain lists. -/
namespace Go.Proofs.YtepfcaopboenpaaGreat
open Go.RowKit
section
variable {S : Nat → Prop} {w w' : World} {r q lcap : Nat} {pv : Value} {D : DevS}

/-- Block r is the document's device that says D, wherever its rows lie. -/
def RStands (S : Nat → Prop) (w : World) (r : Nat) (D : DevS) : Prop := ∃ q lcap pv, Ref S w r q lcap pv D
def RLeaves (S : Nat → Prop) (w w' : World) (r : Nat) (D' : DevS) : Prop :=
  ∃ S' : Nat → Prop, (∀ k, S' k → S k ∨ w.heap.size ≤ k) ∧ RStands S' w' r D' ∧ Only S w w'
theorem RLeaves.mk {D : DevS} (d : RStands S w' r D) (h : Only S w w') : RLeaves S w w' r D := ⟨S, fun _ => .inl, d, h⟩
theorem RStands.kept {T : Nat → Prop} (d : RStands S w r D) (h : Only T w w') (hT : ∀ k, S k → ¬ T k) : RStands S w' r D := by
  obtain ⟨q, lcap, pv, d⟩ := d; exact ⟨q, lcap, pv, d.kept h hT⟩
theorem RStands.below (d : RStands S w r D) (h : Below w.heap.size w w') : RStands S w' r D :=
  d.kept (Only.of_below (fun _ => False) h (Nat.le_refl _)) (fun _ _ f => f)
theorem RStands.ok (d : RStands S w r D) : D.Ok := by obtain ⟨q, lcap, pv, d⟩ := d; exact d.ok
theorem RStands.lt (d : RStands S w r D) : ∀ k, S k → k < w.heap.size := by obtain ⟨q, lcap, pv, d⟩ := d; exact d.lt

set_option maxRecDepth 100000 in
set_option maxHeartbeats 1000000 in
theorem rread_no (i : Int) (hck : D.ck i ≠ 0) (d : Ref S w r q lcap pv D) :
    Calls Tryz.prog 34 #[.pointer (some ⟨r, 0, none⟩), .int .i64 i] w fun e w' => e = .returned (.tuple #[.string ByteArray.empty, .int .i64 (D.ck i)]) ∧ w = w' := by
  have c0 := d.c0; have c3 := d.c3; have hn := d.ok.few
  clear d
  by_cases hde : D.dead = true
  · have e : D.ck i = 4 := by simp [DevS.ck, hde]
    rw [e]
    rw [hde] at c3
    clear hck e hde
    generalize D.disk.length = n at *
    go_enter Tryz.func34, Tryz.ntmps34
    go_wp2
    go_ret2
    exact ⟨rfl, rfl⟩
  · have hdf : D.dead = false := by simpa using hde
    have h : i < 0 ∨ (0 ≤ i ∧ (D.disk.length : Int) ≤ i) := by
      unfold DevS.ck at hck; rw [hdf] at hck; simp at hck; omega
    have e : D.ck i = 2 := by unfold DevS.ck; rw [hdf, if_neg (by simp), if_pos (by omega)]
    rw [e]
    rw [hdf] at c3
    clear hck e hde hdf
    generalize D.disk.length = n at *
    rcases h with h | ⟨h, h'⟩
    all_goals
      go_enter Tryz.func34, Tryz.ntmps34
      go_wp2
      go_ret2
      exact ⟨rfl, rfl⟩

set_option maxRecDepth 100000 in
set_option maxHeartbeats 2000000 in
theorem rread_yes (j n : Nat) (hn : D.pend.length = n) (hb : n ≤ 1000000) (hde : D.dead = false) (hj : j < D.disk.length) (d : Ref S w r q lcap pv D) :
    Calls Tryz.prog 34 #[.pointer (some ⟨r, 0, none⟩), .int .i64 j] w fun e w' => e = .returned (.tuple #[.string (D.rdB j), .int .i64 0]) ∧ w = w' := by
  have c0 := d.c0; have c1 := d.c1; have c3 := d.c3; have cq := d.cq j hj; have hfew := d.ok.few
  rw [hde] at c3
  obtain ⟨ao, cap, hpv⟩ := own_shape d.hr
  rw [hn] at hpv
  have HD := Lib.hid d; have HN := Lib.hid hn
  have HZ := Lib.hid (lastK_zero D j)
  have HAll : Hid (lastK D j n = D.rdB j) := by show _ = _; rw [← hn]; exact lastK_all D j
  clear d hn hde
  subst hpv
  generalize D.disk.length = nd at *
  rw [← HZ.out] at cq
  go_enter Tryz.func34, Tryz.ntmps34
  go_wp2_with fail
  go_loop [6, 7] (fun sv iv => ∃ k : Nat, k ≤ n ∧ iv = .int .i64 k ∧ sv = .string (lastK D j k)) (fun _ iv => n - (intOf iv).toNat)
  case atStart => exact ⟨0, Nat.zero_le _, rfl, rfl⟩
  case round =>
    obtain ⟨k, hk, rfl, rfl⟩ := hrel
    by_cases hlt : k < n
    · have hkp : k < D.pend.length := by rw [HN.out]; exact hlt
      obtain ⟨b, e⟩ : ∃ b, ao = some ⟨b, 0, none⟩ := by
        rcases HD.out.hr.2 with ⟨h1, h2⟩ | ⟨g, cap', cur, h1, _⟩
        · rw [HN.out] at h2; omega
        · simp at h1; exact ⟨g, h1.1⟩
      subst e
      obtain ⟨d0, d1⟩ := HD.out.cr k hkp
      have HS := Lib.hid (lastK_succ D j k hkp)
      generalize D.pend[k] = x at *
      obtain ⟨xb, xs⟩ := x
      simp only at d0 d1 HS
      clear hkp
      by_cases e : xb = j
      · have e' : ((xb : Int) == (j : Int)) = true := by simp [e]
        have HE : Hid (lastK D j (k + 1) = xs) := by show _ = _; rw [HS.out, if_pos e]
        clear e HS
        generalize lastK D j k = T at *
        go_wp2
        go_round
        case rel => exact ⟨k + 1, by omega, by go_num, by rw [HE.out]⟩
        case measure => simp [intOf]; omega
      · have e' : ((xb : Int) == (j : Int)) = false := by simp; omega
        have HE : Hid (lastK D j (k + 1) = lastK D j k) := by show _ = _; rw [HS.out, if_neg e]
        clear e HS
        go_wp2
        go_round
        case rel => exact ⟨k + 1, by omega, by go_num, by rw [HE.out]⟩
        case measure => simp [intOf]; omega
    · have hkn : k = n := by omega
      subst hkn
      go_wp2
      go_ret2
      exact ⟨by rw [← HAll.out]; rfl, rfl⟩

theorem rread_any (i : Int) (hl : D.pend.length ≤ 1000000) (d : RStands S w r D) :
    Calls Tryz.prog 34 #[.pointer (some ⟨r, 0, none⟩), .int .i64 i] w fun e w' => e = .returned (.tuple #[.string (D.rd i).1, .int .i64 (D.rd i).2]) ∧ w = w' := by
  obtain ⟨q, lcap, pv, d⟩ := d
  by_cases h1 : D.ck i = 0
  · have hk : D.dead = false ∧ 0 ≤ i ∧ i < D.disk.length := by
      unfold DevS.ck at h1
      split at h1
      · omega
      · split at h1
        · omega
        · exact ⟨by simp_all, by omega, by omega⟩
    obtain ⟨j, rfl⟩ := Int.eq_ofNat_of_zero_le hk.2.1
    have e : D.rd j = (D.rdB j, 0) := by simp [DevS.rd, h1]
    rw [e]
    exact rread_yes j _ rfl hl hk.1 (by omega) d
  · have e : D.rd i = (ByteArray.empty, D.ck i) := by simp [DevS.rd, h1]
    rw [e]
    exact rread_no i h1 d

end
end Go.Proofs.YtepfcaopboenpaaGreat
/- What the document's device's Fuse leaves behind. -/
namespace Go.Proofs.YtepfcaopboenpaaGreat
open Go.RowKit
section
variable {S : Nat → Prop} {w w' : World} {r q lcap : Nat} {pv : Value} {D : DevS}
set_option maxRecDepth 100000 in
set_option maxHeartbeats 1000000 in
theorem rfuse_any (n : Int) (hn : n ≤ 9223372036854775807) (d : Ref S w r q lcap pv D) :
    Calls Tryz.prog 13 #[.pointer (some ⟨r, 0, none⟩), .int .i64 n] w fun e w' => e = .returned (.tuple #[]) ∧ Ref S w' r q lcap pv (D.setFuse n) ∧ Only S w w' := by
  have c2 := d.c2; have f2 := d.f 2
  have er : (D.setFuse n).rfu = max n (-1) := by
    unfold DevS.rfu DevS.setFuse
    by_cases h : 0 ≤ n
    · simp [h]; omega
    · simp [h]; omega
  have hd' : Ref S (w.setCell ⟨r, 2, none⟩ (.int .i64 (max n (-1)))) r q lcap pv (D.setFuse n) :=
    d.put 2 _ _ pv (d.ok.setFuse n hn) rfl (by rw [er]; rfl) d.hr d.rp d.rq d.sr
  have HD := Lib.hid hd'; have HS := Lib.hid d.sp
  clear d er hd'
  go_enter Tryz.func13, Tryz.ntmps13
  go_wp2
  go_end0
  exact ⟨rfl, HD.out, (Only.refl _ _).setCell (fun _ => HS.out) _⟩

end
end Go.Proofs.YtepfcaopboenpaaGreat
/- What Pending answers, for every device: a row of its own with the pending writes. -/
namespace Go.Proofs.YtepfcaopboenpaaGreat
open Go.RowKit
section
variable {S : Nat → Prop} {w : World} {p q : Nat} {pv : Value} {D : DevS}

set_option maxRecDepth 100000 in
set_option maxHeartbeats 1000000 in
theorem pending_any (hl : D.pend.length ≤ 1000000) (d : Stands S w p D) :
    Calls Tryz.prog 23 #[.pointer (some ⟨p, 0, none⟩)] w fun e w' => ∃ v, e = .returned v ∧ w'.ownsRow w.heap.size 73 2 v D.pend.length (flatW D.pend) ∧ Below w.heap.size w w' := by
  obtain ⟨q, pv, d⟩ := d
  have c1 := d.c1
  obtain ⟨i0, hi, hz0, hz1, hz2⟩ := info_parts Tryz.infoW
  rcases d.hr.2 with ⟨rfl, h0⟩ | ⟨r, cap, cur, rfl, _⟩
  · have hc := Tryz.cloneW_nil 0 0 w
    have HC := Lib.hid hc
    have HE : Hid (D.pend = []) := List.eq_nil_of_length_eq_zero h0
    clear hc d h0 hl
    go_enter Tryz.func23, Tryz.ntmps23
    go_wp2_with fail
    refine HC.out.mono ?_
    rintro e w1 ⟨rfl, rfl⟩
    go_wp2
    go_ret
    refine ⟨_, rfl, ?_, Below.refl _ _⟩
    rw [HE.out]; exact World.ownsRow_nil _ _ _ _
  · have hc := Tryz.cloneW i0 _ 2 24 hi hz0 hz1 hz2 rfl (by decide) Tryz.sizeOf73 r 0 D.pend.length cap (flatW D.pend) w (flatW_length _) (by unfold maxLen; omega) (by omega) (fun j u hj => by
      have := d.hr.cells (g := r) rfl j u hj
      have hadd : (⟨r, 0, none⟩ : Addr).add j = ⟨r, 0 + j, none⟩ := by unfold Addr.add; split <;> simp_all
      rw [← hadd]; exact this) (flatW_one _)
    have HC := Lib.hid hc
    clear hc d hl
    go_enter Tryz.func23, Tryz.ntmps23
    go_wp2_with fail
    refine HC.out.mono ?_
    rintro e w1 ⟨v, rfl, hown, _, hb⟩
    have HO := Lib.hid hown; clear hown
    have HB := Lib.hid hb; clear hb
    go_wp2
    go_ret
    exact ⟨v, rfl, HO.out, HB.out⟩
end
section
variable {w0 w w' : World} {p : Nat} {D : DevS}
theorem At.pending (hl : D.pend.length ≤ 1000000) (h : At w0 w p D) :
    Calls Tryz.prog 23 #[.pointer (some ⟨p, 0, none⟩)] w fun e w' => ∃ v, e = .returned v ∧ w'.ownsRow w.heap.size 73 2 v D.pend.length (flatW D.pend) ∧ Below w.heap.size w w' ∧ At w0 w' p D := by
  have h' := h
  obtain ⟨S, hS, hs, h0⟩ := h
  exact (pending_any hl hs).mono fun _ _ ⟨v, he, h1, h2⟩ => ⟨v, he, h1, h2, h'.below h2⟩
end
end Go.Proofs.YtepfcaopboenpaaGreat
