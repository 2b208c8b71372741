/- A file, read. -/
import Derived.Test.YtfmnbabkdpiboaaZIRd
import Derived.Test.YtfmnbabkdpiboaaZBase
import Derived.Deep.AppendLies
import Derived.Great.BuildSlice

namespace Go.Proofs.Ytfmnbabkdpiboaa
open Go.RowKit
open Fr (rdV rdT bs str_len)

section
variable {P : Program}
theorem step_append_own {ops : Array Oper} {o : Oper} {a : Act} {w : World} {K : Act → World → Prop} {Q : Exit → Act → World → Prop} {E : Prop} (hgd : o.guard = none) (s x : Operand) (t : TypeId)
    (ho : o.op = .call { callee := .builtin .append, args := #[s, x], argTypes := #[t, t] })
    (base : Nat) (e : TypeId) (i : TypeInfo) (z : Value) (size bytes : Nat) (ht : P.underlying t = some (.slice e)) (hi : P.info? e = some i) (hz : i.zero = some z)
    (hsize : i.size = size) (hby : i.bytes = bytes) (hzs : z.cells.size = size) (hsz : 0 < size)
    (v : Value) (n : Nat) (xs : List Value) (hs : a.eval s = v) (hown : w.ownsRow base e size v n xs)
    (ad : Addr) (m c : Nat) (news : List Value) (hx : a.eval x = .slice (some ad) m c) (hl : news.length = m * size) (hnews : ∀ j u, news[j]? = some u → w.cell? (ad.add j) = some u) (h1 : ∀ u ∈ news, u.oneCell' = true)
    (h63 : n + m ≤ maxLen) (hbytes : (n + m) * bytes ≤ 140737488355328) (hbase : base ≤ w.heap.size)
    (h : ∀ v' w', w'.ownsRow base e size v' (n + m) (xs ++ news) → w.grownBy w' v.ownBlock → K (a.put o.dst v') w') :
    if Region.wanted o (yielded ops a.tmps) = true then Oper.wp P o a w K Q else E := by
  have hw : Region.wanted o (yielded ops a.tmps) = true := by simp [Region.wanted, hgd]
  rw [if_pos hw]
  exact wp_append_own w s x t ho base e i z size bytes ht hi hz hsize hby hzs hsz v n xs hs hown ad m c news hx hl hnews h1 h63 hbytes hbase (fun v' w' h2 h3 _ => h v' w' h2 h3)
end
def nExt1 (o : Option (List UInt8)) : (Int × Int) × Option (List UInt8) := ((((nNum 4096 o).1 : Int), ((nNum 4096 (nNum 4096 o).2).1 : Int)), (nNum 4096 (nNum 4096 o).2).2)
def nExts (o : Option (List UInt8)) : Nat → List (Int × Int) × Option (List UInt8)
  | 0 => ([], o)
  | n + 1 => ((nExts o n).1 ++ [(nExt1 (nExts o n).2).1], (nExt1 (nExts o n).2).2)
theorem nExts_len (o : Option (List UInt8)) (n : Nat) : (nExts o n).1.length = n := by
  induction n with
  | zero => rfl
  | succ n ih => rw [nExts]; simp [ih]
theorem nExts_cons (o : Option (List UInt8)) (n : Nat) : nExts o (n + 1) = ((nExt1 o).1 :: (nExts (nExt1 o).2 n).1, (nExts (nExt1 o).2 n).2) := by
  induction n with
  | zero => rfl
  | succ n ih => rw [nExts, ih]; simp [nExts]
theorem nNum_none (most : Nat) : nNum most none = (0, none) := rfl
theorem nNum_le (most : Nat) (o : Option (List UInt8)) : (nNum most o).1 ≤ most := by
  unfold nNum
  cases o with
  | none => simp
  | some l =>
    simp only [Option.bind_some]
    cases h : pNum most l with
    | none => simp
    | some p => obtain ⟨v, r⟩ := p; exact (pNum_some h).2
theorem nNum_yes {most : Nat} {l r : List UInt8} {v : Nat} (h : pNum most l = some (v, r)) : nNum most (some l) = (v, some r) := by simp [nNum, h]
theorem nNum_no {most : Nat} {l : List UInt8} (h : pNum most l = none) : nNum most (some l) = (0, none) := by simp [nNum, h]
theorem nExts_none (n : Nat) : (nExts none n).2 = none := by
  induction n with
  | zero => rfl
  | succ n ih => rw [nExts]; simp only [ih]; rfl
theorem nExts_yes {n : Nat} {l r : List UInt8} {E : List (Int × Int)} (h : pExts n l = some (E, r)) : nExts (some l) n = (E, some r) := by
  induction n generalizing l E with
  | zero => cases h; rfl
  | succ n ih =>
    rw [pExts] at h
    simp only [Option.bind_eq_bind] at h
    cases e1 : pNum 4096 l with
    | none => rw [e1] at h; cases h
    | some p1 =>
      obtain ⟨a, l1⟩ := p1
      rw [e1] at h; simp only [Option.bind_some] at h
      cases e2 : pNum 4096 l1 with
      | none => rw [e2] at h; cases h
      | some p2 =>
        obtain ⟨c, l2⟩ := p2
        rw [e2] at h; simp only [Option.bind_some] at h
        cases e3 : pExts n l2 with
        | none => rw [e3] at h; cases h
        | some p3 =>
          obtain ⟨E', l3⟩ := p3
          rw [e3] at h; simp only [Option.bind_some, Option.pure_def, Option.some.injEq, Prod.mk.injEq] at h
          obtain ⟨rfl, rfl⟩ := h
          have e : nExt1 (some l) = (((a : Int), (c : Int)), some l2) := by unfold nExt1; rw [nNum_yes e1]; dsimp only; rw [nNum_yes e2]
          rw [nExts_cons, e, ih e3]
theorem nExts_no {n : Nat} {l : List UInt8} (h : pExts n l = none) : (nExts (some l) n).2 = none := by
  induction n generalizing l with
  | zero => cases h
  | succ n ih =>
    rw [pExts] at h
    simp only [Option.bind_eq_bind] at h
    rw [nExts_cons]
    cases e1 : pNum 4096 l with
    | none =>
      have e : (nExt1 (some l)).2 = none := by unfold nExt1; rw [nNum_no e1]; rfl
      rw [e]; exact nExts_none n
    | some p1 =>
      obtain ⟨a, l1⟩ := p1
      rw [e1] at h; simp only [Option.bind_some] at h
      cases e2 : pNum 4096 l1 with
      | none =>
        have e : (nExt1 (some l)).2 = none := by unfold nExt1; rw [nNum_yes e1]; dsimp only; rw [nNum_no e2]
        rw [e]; exact nExts_none n
      | some p2 =>
        obtain ⟨c, l2⟩ := p2
        rw [e2] at h; simp only [Option.bind_some] at h
        have e : (nExt1 (some l)).2 = some l2 := by unfold nExt1; rw [nNum_yes e1]; dsimp only; rw [nNum_yes e2]
        rw [e]
        cases e3 : pExts n l2 with
        | none => exact ih e3
        | some p3 => rw [e3] at h; obtain ⟨E', l3⟩ := p3; cases h
/-- A file. -/
def nFile (o : Option (List UInt8)) : Fl × Option (List UInt8) :=
  let t := nTxt o; let s := nNum 1 t.2; let z := nNum 2147483647 s.2; let n := nNum 16 z.2; let E := nExts n.2 n.1
  (⟨t.1, s.1 == 1, (z.1 : Int), E.1⟩, E.2)
theorem nFile_none : (nFile none).2 = none := nExts_none _
theorem nFile_yes {l r : List UInt8} {f : Fl} (h : pFile l = some (f, r)) : nFile (some l) = (f, some r) := by
  unfold pFile at h
  simp only [Option.bind_eq_bind] at h
  cases e1 : rdT l with
  | none => rw [e1] at h; cases h
  | some p =>
    obtain ⟨t, l1⟩ := p
    rw [e1] at h; simp only [Option.bind_some] at h
    cases e2 : pNum 1 l1 with
    | none => rw [e2] at h; cases h
    | some p =>
      obtain ⟨s, l2⟩ := p
      rw [e2] at h; simp only [Option.bind_some] at h
      cases e3 : pNum 2147483647 l2 with
      | none => rw [e3] at h; cases h
      | some p =>
        obtain ⟨z, l3⟩ := p
        rw [e3] at h; simp only [Option.bind_some] at h
        cases e4 : pNum 16 l3 with
        | none => rw [e4] at h; cases h
        | some p =>
          obtain ⟨n, l4⟩ := p
          rw [e4] at h; simp only [Option.bind_some] at h
          cases e5 : pExts n l4 with
          | none => rw [e5] at h; cases h
          | some p =>
            obtain ⟨E, l5⟩ := p
            rw [e5] at h; simp only [Option.bind_some, Option.pure_def, Option.some.injEq, Prod.mk.injEq] at h
            obtain ⟨rfl, rfl⟩ := h
            have h1 : nTxt (some l) = (⟨t.toArray⟩, some l1) := by simp [nTxt, e1]
            unfold nFile
            simp only [h1, nNum_yes e2, nNum_yes e3, nNum_yes e4, nExts_yes e5]
theorem nFile_no {l : List UInt8} (h : pFile l = none) : (nFile (some l)).2 = none := by
  unfold pFile at h
  simp only [Option.bind_eq_bind] at h
  cases e1 : rdT l with
  | none =>
    have h1 : nTxt (some l) = (⟨#[]⟩, none) := by simp [nTxt, e1]
    unfold nFile
    simp only [h1, nNum_none, nExts_none]
  | some p =>
    obtain ⟨t, l1⟩ := p
    have h1 : nTxt (some l) = (⟨t.toArray⟩, some l1) := by simp [nTxt, e1]
    rw [e1] at h; simp only [Option.bind_some] at h
    cases e2 : pNum 1 l1 with
    | none =>
      unfold nFile
      simp only [h1, nNum_no e2, nNum_none, nExts_none]
    | some p =>
      obtain ⟨s, l2⟩ := p
      rw [e2] at h; simp only [Option.bind_some] at h
      cases e3 : pNum 2147483647 l2 with
      | none =>
        unfold nFile
        simp only [h1, nNum_yes e2, nNum_no e3, nNum_none, nExts_none]
      | some p =>
        obtain ⟨z, l3⟩ := p
        rw [e3] at h; simp only [Option.bind_some] at h
        cases e4 : pNum 16 l3 with
        | none =>
          unfold nFile
          simp only [h1, nNum_yes e2, nNum_yes e3, nNum_no e4, nExts_none]
        | some p =>
          obtain ⟨n, l4⟩ := p
          rw [e4] at h; simp only [Option.bind_some] at h
          cases e5 : pExts n l4 with
          | none =>
            unfold nFile
            simp only [h1, nNum_yes e2, nNum_yes e3, nNum_yes e4, nExts_no e5]
          | some p => rw [e5] at h; obtain ⟨E, l5⟩ := p; cases h

/-! Memory. -/
theorem RdOK.drew {w : World} {g : Nat} {o : Option (List UInt8)} (h : RdOK w g o) : RdOK w.drew g o := by
  obtain ⟨s, b, h, rest⟩ := h
  exact ⟨s, b, h, rest⟩
theorem RdOK.alloc {w : World} {g : Nat} {o : Option (List UInt8)} (h : RdOK w g o) (x : Obj) : RdOK (w.alloc x) g o := h.below ((Below.refl _ _).alloc (Nat.le_refl _) _)
theorem own_only {B : Nat} {e : TypeId} {k : Nat} {v : Value} {n : Nat} {xs : List Value} {w w' : World} {S : Nat → Prop} (h : w.ownsRow B e k v n xs) (hb : Only S w w') (hS : ∀ k, B ≤ k → ¬ S k) : w'.ownsRow B e k v n xs := by
  refine ⟨h.1, ?_⟩
  rcases h.2 with hn | ⟨g, cap, cur, rfl, hbg, hg, rest⟩
  · exact .inl hn
  · exact .inr ⟨g, cap, cur, rfl, hbg, by rw [hb.block g (Array.getElem?_eq_some_iff.1 hg).1 (hS g hbg)]; exact hg, rest⟩
/-- A row's block is of its own type. -/
theorem own_not {w : World} {B : Nat} {e t : TypeId} {k n : Nat} {r : Value} {xs : List Value} {cs : Array Value} {fz : Nat × Nat} {q : Nat} (h : w.ownsRow B e k r n xs) (hq : w.heap[q]? = some (.cells cs t fz)) (hne : e ≠ t) : r.ownBlock ≠ some q := by
  intro he
  rcases h.2 with ⟨rfl, _⟩ | ⟨g, cap, cur, rfl, _, hg, _⟩
  · cases he
  · simp [Value.ownBlock] at he; subst he; rw [hg] at hq; cases hq; exact hne rfl
theorem grown_block {w w' : World} {o : Option Nat} (h : w.grownBy w' o) {q : Nat} (hq : q < w.heap.size) (hne : o ≠ some q) : w'.heap[q]? = w.heap[q]? := h.block q hq (fun e => hne e.symm)
theorem only_grown {S : Nat → Prop} {w0 w w' : World} {o : Option Nat} (h : Only S w0 w) (hg : w.grownBy w' o) (ho : ∀ q, o = some q → w0.heap.size ≤ q) : Only S w0 w' :=
  ⟨hg.os.trans h.os, hg.tape.trans h.tape, hg.output.trans h.output, Nat.le_trans h.size hg.size, fun k hk hS => (hg.block k (Nat.lt_of_lt_of_le hk h.size) (fun e => by have := ho k e.symm; omega)).trans (h.block k hk hS)⟩
theorem Only.drewN {S : Nat → Prop} {a w : World} (h : Only S a w) (n : Nat) : Only S a (w.drewN n) := ⟨h.os, h.tape, h.output, h.size, h.block⟩
theorem setRow_heap {w : World} {g : Nat} {old : Array Value} {t : TypeId} {fz : Nat × Nat} (h : w.heap[g]? = some (.cells old t fz)) (cs : Array Value) : (w.setRow g cs).heap[g]? = some (.cells cs t fz) := by
  simp [World.setRow, Array.getElem?_modify, h]
theorem setRow_only (w : World) (g : Nat) (cs : Array Value) : Only (fun b => b = g) w (w.setRow g cs) :=
  ⟨rfl, rfl, rfl, by simp [World.setRow], fun k hk hne => by simp [World.setRow, Array.getElem?_modify, Ne.symm hne]⟩
set_option maxRecDepth 100000 in
set_option maxHeartbeats 4000000 in
theorem fileR_any (o : Option (List UInt8)) (g : Nat) (w : World) (h : RdOK w g o) :
    Calls Try.prog 58 #[.pointer (some ⟨g, 0, none⟩)] w fun e w' => ∃ ve, e = .returned (fileAgg (nFile o).1 ve) ∧ Hid (OwnE w.heap.size w' ve (nFile o).1.ext) ∧ Hid (RdOK w' g (nFile o).2) ∧ Hid (Only (fun k => k = g) w w') := by
  obtain ⟨i0, hi, hz0, hz1, hz2⟩ := info_parts Try.infoX
  have HZ2 := Lib.hid hz2; clear hz2
  have hg := h.lt
  have HNF : Hid (nFile o = (⟨(nTxt o).1, (nNum 1 (nTxt o).2).1 == 1, ((nNum 2147483647 (nNum 1 (nTxt o).2).2).1 : Int), (nExts (nNum 16 (nNum 2147483647 (nNum 1 (nTxt o).2).2).2).2 (nNum 16 (nNum 2147483647 (nNum 1 (nTxt o).2).2).2).1).1⟩, (nExts (nNum 16 (nNum 2147483647 (nNum 1 (nTxt o).2).2).2).2 (nNum 16 (nNum 2147483647 (nNum 1 (nTxt o).2).2).2).1).2)) := rfl
  have HT := Lib.hid fun W h => textR_any o g W h
  have HN1 := Lib.hid fun W h => number_any 1 (by omega) (nTxt o).2 g W h
  have HN2 := Lib.hid fun W h => number_any 2147483647 (by omega) (nNum 1 (nTxt o).2).2 g W h
  have HN3 := Lib.hid fun W h => number_any 16 (by omega) (nNum 2147483647 (nNum 1 (nTxt o).2).2).2 g W h
  have hm1 := nNum_le 1 (nTxt o).2
  have hm2 := nNum_le 2147483647 (nNum 1 (nTxt o).2).2
  have hm3 := nNum_le 16 (nNum 2147483647 (nNum 1 (nTxt o).2).2).2
  generalize hq3 : nNum 16 (nNum 2147483647 (nNum 1 (nTxt o).2).2).2 = q3 at *
  generalize hq2 : nNum 2147483647 (nNum 1 (nTxt o).2).2 = q2 at *
  generalize hq1 : nNum 1 (nTxt o).2 = q1 at *
  generalize hq0 : nTxt o = q0 at *
  rw [HNF.out]
  clear HNF hq0 hq1 hq2 hq3
  obtain ⟨nm, o1⟩ := q0
  obtain ⟨vs, o2⟩ := q1
  obtain ⟨vz, o3⟩ := q2
  obtain ⟨m, o4⟩ := q3
  dsimp only at *
  have HR0 := Lib.hid h; clear h
  have HAny := Lib.hid fun (oo : Option (List UInt8)) W h => number_any 4096 (by omega) oo g W h
  go_enter Try.func58, Try.ntmps58
  go_wp2_with fail
  refine (HT.out _ (HR0.out.alloc _)).mono ?_
  rintro e w1 ⟨rfl, HR1, HO1⟩
  go_wp2_with fail
  refine (HN1.out _ HR1.out).mono ?_
  rintro e w2 ⟨rfl, HR2, HO2⟩
  go_wp2_with fail
  refine (HN2.out _ HR2.out).mono ?_
  rintro e w3 ⟨rfl, HR3, HO3⟩
  have hs1 : ((vs : Int) == 1) = (vs == 1) := by rcases (by omega : vs = 0 ∨ vs = 1) with rfl | rfl <;> rfl
  obtain ⟨sh, hsh⟩ : ∃ sh, (vs == 1) = sh := ⟨_, rfl⟩
  rw [hsh] at hs1
  have HSH := Lib.hid hsh
  clear hsh
  rename_i aK
  refine aK _ _ ?_
  clear aK
  have hw1 := HO1.out.size
  have hw2 := HO2.out.size
  have hw3 := HO3.out.size
  have hw0 : (w.alloc (.cells #[.string ⟨#[]⟩, .bool false, .int .i64 0, .slice none 0 0] 50)).heap.size = w.heap.size + 1 := by simp
  rw [hw0] at hw1
  have hr1 := (HO1.out.block w.heap.size (by rw [hw0]; omega) (by omega)).trans (heap_alloc_new w _)
  have hr2 := (HO2.out.block w.heap.size (by omega) (by omega)).trans hr1
  have hr3 := (HO3.out.block w.heap.size (by omega) (by omega)).trans hr2
  have HOw3 : Hid (Only (fun k => k = g) w w3) := ((((Only.refl _ w).alloc _).trans HO1.out (fun _ _ h => h)).trans HO2.out (fun _ _ h => h)).trans HO3.out (fun _ _ h => h)
  have hgf : g ≠ w3.heap.size := by omega
  have hrf : w.heap.size ≠ w3.heap.size := by omega
  rw [hs1]
  clear hs1
  refine wpList_buildTo rfl 50 _ rfl (some 11) rfl #[.string nm, .bool sh, .int .i64 (vz : Int), .slice none 0 0] (by kernel_rfl) ?_
  refine wpList_runs rfl (v := .pointer (some ⟨w3.heap.size, 0, none⟩)) (w' := w3.alloc (.cells #[.string ⟨#[]⟩, .bool false, .int .i64 0, .slice none 0 0] 50)) (by kernel_rfl) ?_
  obtain ⟨W4, hW4⟩ : ∃ W4, W4 = w3.alloc (.cells #[.string ⟨#[]⟩, .bool false, .int .i64 0, .slice none 0 0] 50) := ⟨_, rfl⟩
  have hf4 : W4.heap[w3.heap.size]? = some (.cells #[.string ⟨#[]⟩, .bool false, .int .i64 0, .slice none 0 0] 50 (0, 0)) := by rw [hW4]; exact heap_alloc_new _ _
  have HBW4 : Hid (Below w3.heap.size w3 W4) := by show Below _ _ _; rw [hW4]; exact (Below.refl _ _).alloc (Nat.le_refl _) _
  rw [← hW4]
  clear hW4
  refine wpList_store_row rfl 50 (.tmp 3) (.tmp 11) rfl w3.heap.size #[.string nm, .bool sh, .int .i64 (vz : Int), .slice none 0 0] rfl rfl 50 #[.string ⟨#[]⟩, .bool false, .int .i64 0, .slice none 0 0] hf4 (by kernel_rfl) rfl (by simp [Value.oneCell']) ?_
  have hf5 := setRow_heap hf4 #[.string nm, .bool sh, .int .i64 (vz : Int), .slice none 0 0]
  have ho5 : Only (fun b => b = w3.heap.size) W4 (W4.setRow w3.heap.size #[.string nm, .bool sh, .int .i64 (vz : Int), .slice none 0 0]) := setRow_only W4 w3.heap.size _
  generalize W4.setRow w3.heap.size #[.string nm, .bool sh, .int .i64 (vz : Int), .slice none 0 0] = W5 at *
  have hb5 : Below w3.heap.size w3 W5 := HBW4.out.trans (ho5.below (B := w3.heap.size) (by have := HBW4.out.size; omega) (fun k _ e => by omega))
  have hr5 := (hb5.block w.heap.size (by omega)).trans hr3
  have HR5 := Lib.hid (HR3.out.below hb5)
  have HO5 : Hid (Only (fun k => k = g) w W5) := HOw3.out.trans (Only.of_below (fun k => k = g) hb5 (Nat.le_refl _)) (fun _ _ h => h)
  have hs5 := hb5.size
  obtain ⟨f, hf⟩ : ∃ f, w3.heap.size = f := ⟨_, rfl⟩
  rw [hf] at hf5 hgf hrf hw3 ⊢
  have hfl : f < W5.heap.size := (Array.getElem?_eq_some_iff.1 hf5).1
  have HF5 := Lib.hid hf5
  have HX5 := Lib.hid hr5
  clear hr1 hr2 hr3 HO1 HO2 HO3 HR1 HR2 HR3 HT HN1 HN2 HR0 HOw3 HBW4 hf4 ho5 hb5 hr5 hf5 hf
  have hwf : w.heap.size ≤ f := by omega
  clear hw1 hw2 hw3 hw0 hs5
  clear w1 w2 w3
  go_wp2_with fail
  refine (HN3.out _ HR5.out).mono ?_
  rintro e w6 ⟨rfl, HR6, HO6⟩
  have hrl : w.heap.size < W5.heap.size := by have := HO5.out.size; exact (Array.getElem?_eq_some_iff.1 HX5.out).1
  have hf6 := (HO6.out.block f hfl (Ne.symm hgf)).trans HF5.out
  have hx6 := (HO6.out.block w.heap.size hrl (by omega)).trans HX5.out
  have HF6 := Lib.hid hf6
  have HX6 := Lib.hid hx6
  have HO7 : Hid (Only (fun k => k = g) w w6) := HO5.out.trans HO6.out (fun _ _ h => h)
  clear hf6 hx6 HF5 HX5 HO5 HO6 HR5 HN3 hfl hrl
  clear W4 W5
  go_wp2_with fail
  go_loopw [14] (fun jv wr => ∃ (j : Nat) (ev : Value), j ≤ m ∧ jv = .int .i64 (j : Int) ∧ Hid (wr.heap[f]? = some (.cells #[.string nm, .bool sh, .int .i64 (vz : Int), ev] 50 (0, 0))) ∧ Hid (wr.heap[w.heap.size]? = some (.cells #[.string ⟨#[]⟩, .bool false, .int .i64 0, .slice none 0 0] 50 (0, 0))) ∧ Hid (OwnE w.heap.size wr ev (nExts o4 j).1) ∧ Hid (RdOK wr g (nExts o4 j).2) ∧ Hid (Only (fun k => k = g) w wr)) (fun jv _ => m - (intOf jv).toNat)
  case atStart => exact ⟨0, .slice none 0 0, Nat.zero_le _, rfl, HF6, HX6, OwnE.nil _ _, HR6, HO7⟩
  case round =>
    obtain ⟨j, ev, hj, rfl, HF, HX, HO, HR, HOn⟩ := hrel
    clear HF6 HX6 HR6 HO7
    have hfl : f < wr.heap.size := (Array.getElem?_eq_some_iff.1 HF.out).1
    have hrl : w.heap.size < wr.heap.size := (Array.getElem?_eq_some_iff.1 HX.out).1
    by_cases hjm : j < m
    · have hjz : (j : Int) < (m : Int) := by omega
      have hlen := nExts_len o4 j
      have HN := Lib.hid (show nExts o4 (j + 1) = ((nExts o4 j).1 ++ [(nExt1 (nExts o4 j).2).1], (nExt1 (nExts o4 j).2).2) from rfl)
      generalize nExts o4 j = p at *
      obtain ⟨E, oo⟩ := p
      dsimp only at HO HR HN hlen
      have C1 := Lib.hid fun W h => HAny.out oo W h
      have C2 := Lib.hid fun W h => HAny.out (nNum 4096 oo).2 W h
      have HE1 : Hid (nExt1 oo = ((((nNum 4096 oo).1 : Int), ((nNum 4096 (nNum 4096 oo).2).1 : Int)), (nNum 4096 (nNum 4096 oo).2).2)) := rfl
      have h11 := nNum_le 4096 oo
      have h12 := nNum_le 4096 (nNum 4096 oo).2
      generalize nNum 4096 (nNum 4096 oo).2 = q2 at *
      generalize nNum 4096 oo = q1 at *
      obtain ⟨a1, p1⟩ := q1
      obtain ⟨a2, p2⟩ := q2
      dsimp only at *
      obtain ⟨ao, ac, hev⟩ := own_shapeE HO.out
      subst hev
      have HNF : Hid ((Value.slice ao E.length ac).ownBlock ≠ some f) := own_not HO.out HF.out (by decide)
      have HNX : Hid ((Value.slice ao E.length ac).ownBlock ≠ some w.heap.size) := own_not HO.out HX.out (by decide)
      have HSt : Hid (∀ W, Only (fun k => k = g) wr W → W.cell? ⟨f, 3, none⟩ = some (.slice ao E.length ac) ∧ W.frozen? ⟨f, 3, none⟩ = false) := fun W hW => by
        have e := (hW.block f hfl (Ne.symm hgf)).trans HF.out
        exact ⟨cell_at e 3, free_at e 3⟩
      have HOj : Hid (wr.ownsRow w.heap.size 52 2 (.slice ao j ac) j (flatE E)) := by
        have := HO.out
        unfold OwnE at this
        rw [hlen] at this
        exact this
      rw [hlen] at HNF HNX HSt HF
      have HLn := Lib.hid hlen
      clear HO hlen
      obtain ⟨x3, f3⟩ := HSt.out wr (Only.refl _ _)
      have hgw : ∀ k, w.heap.size ≤ k → ¬ k = g := fun k hk e => by omega
      go_wp2_with fail
      go_region_law (first
        | (refine step_append_own rfl (.tmp 17) (.tmp 23) 48 rfl w.heap.size 52 i0 (.agg #[.int .i64 0, .int .i64 0]) 2 16 Try.underlying48 hi hz0 hz1 HZ2.out rfl (by omega) (.slice ao j ac) j (flatE E) (by kernel_rfl) ?own ⟨w8.heap.size, 0, none⟩ 1 1 [.int .i64 (a1 : Int), .int .i64 (a2 : Int)] (by kernel_rfl) rfl (two_cellsE (heap_alloc_new _ _)) (two_oneE _ _) (by unfold maxLen; omega) (by omega) ?base ?_
           case own => exact (own_only HOj.out HOc.out hgw).alloc _
           case base => have := HOc.out.size; simp; omega
           intro v1 w9 hown hgrow
           obtain ⟨v1o, v1c, rfl⟩ := own_shapeE hown
           have HV9 := Lib.hid hown
           have HG9 := Lib.hid hgrow
           have HF9 : Hid (w9.heap[f]? = some (.cells #[.string nm, .bool sh, .int .i64 (vz : Int), .slice ao j ac] 50 (0, 0))) := (grown_block hgrow (by have := HOc.out.size; simp; omega) HNF.out).trans ((Below.heap_alloc _ _ _ (by have := HOc.out.size; omega)).trans ((HOc.out.block f hfl (Ne.symm hgf)).trans HF.out))
           have z9 := cell_at HF9.out 3
           have e9 := free_at HF9.out 3
           clear hown hgrow)
        | (go_simp; go_at_call 57; (first
          | (refine (C2.out _ HRa.out).mono ?_; rintro e w8 ⟨rfl, HRb, HOb⟩; have HOc : Hid (Only (fun k => k = g) wr w8) := HOa.out.trans HOb.out (fun _ _ h => h); obtain ⟨z3, e3⟩ := HSt.out w8 HOc.out; obtain ⟨z4, e4⟩ := HSt.out (w8.alloc (.cells #[.int .i64 (a1 : Int), .int .i64 (a2 : Int)] 52)) (HOc.out.alloc _))
          | (refine (C1.out _ HR.out.drew).mono ?_; rintro e w7 ⟨rfl, HRa, HOa'⟩; have HOa : Hid (Only (fun k => k = g) wr w7) := (Only.refl _ wr).drew.trans HOa'.out (fun _ _ h => h); clear HOa'; obtain ⟨y3, e3⟩ := HSt.out w7 HOa.out))))
      all_goals
        have HF10 := Lib.hid (heap_setCell_at (i := 3) HF9.out (.slice v1o (j + 1) v1c))
        have HX9 : Hid (w9.heap[w.heap.size]? = some (.cells #[.string ⟨#[]⟩, .bool false, .int .i64 0, .slice none 0 0] 50 (0, 0))) := (grown_block HG9.out (by have := HOc.out.size; simp; omega) HNX.out).trans ((Below.heap_alloc _ _ _ (by have := HOc.out.size; omega)).trans ((HOc.out.block w.heap.size hrl (by omega)).trans HX.out))
        have HX10 : Hid ((w9.setCell ⟨f, 3, none⟩ (.slice v1o (j + 1) v1c)).heap[w.heap.size]? = some (.cells #[.string ⟨#[]⟩, .bool false, .int .i64 0, .slice none 0 0] 50 (0, 0))) := (Below.heap_setCell _ _ _ _ hrf).trans HX9.out
        have HO10 : Hid (OwnE w.heap.size (w9.setCell ⟨f, 3, none⟩ (.slice v1o (j + 1) v1c)) (.slice v1o (j + 1) v1c) (E ++ [((a1 : Int), (a2 : Int))])) := by
          have hl : (E ++ [((a1 : Int), (a2 : Int))]).length = j + 1 := by rw [List.length_append, HLn.out]; rfl
          show World.ownsRow _ _ _ _ _ _ _
          rw [hl, flatE_append]
          exact ownsRow_setCell_other HV9.out (own_not HV9.out HF9.out (by decide)) _
        have HR10 : Hid (RdOK (w9.setCell ⟨f, 3, none⟩ (.slice v1o (j + 1) v1c)) g p2) := by
          have h1 := HRb.out.alloc (.cells #[.int .i64 (a1 : Int), .int .i64 (a2 : Int)] 52)
          obtain ⟨s, b, h2, rest⟩ := h1
          refine ⟨s, b, (Below.heap_setCell _ _ _ _ hgf).trans ((grown_block HG9.out (by have := HOc.out.size; simp; omega) (fun e => ?_)).trans h2), rest⟩
          have := (HOj.out.lt _ e).1
          omega
        have HOn10 : Hid (Only (fun k => k = g) w (w9.setCell ⟨f, 3, none⟩ (.slice v1o (j + 1) v1c))) :=
          (only_grown ((HOn.out.trans HOc.out (fun _ _ h => h)).alloc _) HG9.out (fun q hq => (HOj.out.lt q hq).1)).setCell (p := ⟨f, 3, none⟩) (fun h => by have : f < w.heap.size := h; omega) _
        clear HF9 HX9 HV9 HG9 HRb HRa HOa HOb HOc HF HX HOj HR HOn HSt x3 f3 C1 C2 HNF HNX
        go_wp2_with fail
        go_roundw
        case rel => exact ⟨j + 1, _, by omega, by go_num, HF10, HX10, by show OwnE _ _ _ _; rw [HN.out, HE1.out]; exact HO10.out, by show RdOK _ _ _; rw [HN.out, HE1.out]; exact HR10.out, HOn10⟩
        case measure => simp [intOf]; omega
    · obtain rfl : j = m := by omega
      have hjz : ¬ (j : Int) < (j : Int) := by omega
      obtain ⟨ao, ac, hev⟩ := own_shapeE HO.out
      subst hev
      have hln := nExts_len o4 j
      have e0 : wr.cell? ⟨f, 0, none⟩ = some (.string nm) := by rw [cell_at HF.out]; rfl
      have e1 : wr.cell? ⟨f, 1, none⟩ = some (.bool sh) := by rw [cell_at HF.out]; rfl
      have e2 : wr.cell? ⟨f, 2, none⟩ = some (.int .i64 (vz : Int)) := by rw [cell_at HF.out]; rfl
      have e3 : wr.cell? ⟨f, 3, none⟩ = some (.slice ao (nExts o4 j).1.length ac) := by rw [cell_at HF.out]; rfl
      have d0 : wr.cell? ⟨w.heap.size, 0, none⟩ = some (.string ⟨#[]⟩) := by rw [cell_at HX.out]; rfl
      have d1 : wr.cell? ⟨w.heap.size, 1, none⟩ = some (.bool false) := by rw [cell_at HX.out]; rfl
      have d2 : wr.cell? ⟨w.heap.size, 2, none⟩ = some (.int .i64 0) := by rw [cell_at HX.out]; rfl
      have d3 : wr.cell? ⟨w.heap.size, 3, none⟩ = some (.slice none 0 0) := by rw [cell_at HX.out]; rfl
      have g0 := free_at HX.out 0; have g1 := free_at HX.out 1; have g2 := free_at HX.out 2; have g3 := free_at HX.out 3
      have HYH : Hid (∀ x, ((((wr.setCell ⟨w.heap.size, 0, none⟩ (.string nm)).setCell ⟨w.heap.size, 1, none⟩ (.bool sh)).setCell ⟨w.heap.size, 2, none⟩ (.int .i64 (vz : Int))).setCell ⟨w.heap.size, 3, none⟩ x).heap[w.heap.size]? = some (.cells #[.string nm, .bool sh, .int .i64 (vz : Int), x] 50 (0, 0))) := fun x => by
        rw [heap_setCell_at (i := 3) (heap_setCell_at (i := 2) (heap_setCell_at (i := 1) (heap_setCell_at (i := 0) HX.out (.string nm)) (.bool sh)) (.int .i64 (vz : Int))) x]; rfl
      have HFin : Hid (∀ W, Only (fun b => b = w.heap.size) wr W → ∃ ve, (Value.agg #[.string nm, .bool sh, .int .i64 (vz : Int), .slice ao (nExts o4 j).1.length ac]) = fileAgg ⟨nm, vs == 1, (vz : Int), (nExts o4 j).1⟩ ve ∧ Hid (OwnE w.heap.size W ve (nExts o4 j).1) ∧ Hid (RdOK W g (nExts o4 j).2) ∧ Hid (Only (fun k => k = g) w W)) := fun W hW => by
        refine ⟨.slice ao (nExts o4 j).1.length ac, by rw [HSH.out]; rfl, ?_, HR.out.only hW (by omega), ?_⟩
        · have h1 := HO.out
          have h2 := own_not h1 HX.out (by decide)
          refine ⟨h1.1, ?_⟩
          rcases h1.2 with hn | ⟨q, cap, cur, hq, hbg, hgq, rest⟩
          · exact .inl hn
          · refine .inr ⟨q, cap, cur, hq, hbg, ?_, rest⟩
            rw [hW.block q (Array.getElem?_eq_some_iff.1 hgq).1 (fun e => by subst e; rw [hq] at h2; exact h2 rfl)]
            exact hgq
        · exact HOn.out.trans (Only.mono hW (T := fun k => k = w.heap.size) (fun _ _ h => h)) (T := fun k => k = w.heap.size) (fun i hi h => by omega)
      have HYO : Hid (∀ x0 x1 x2 x3, Only (fun b => b = w.heap.size) wr ((((wr.setCell ⟨w.heap.size, 0, none⟩ x0).setCell ⟨w.heap.size, 1, none⟩ x1).setCell ⟨w.heap.size, 2, none⟩ x2).setCell ⟨w.heap.size, 3, none⟩ x3)) := fun x0 x1 x2 x3 => ((((Only.refl (fun b => b = w.heap.size) wr).setCell (p := ⟨w.heap.size, 0, none⟩) (fun _ => rfl) _).setCell (p := ⟨w.heap.size, 1, none⟩) (fun _ => rfl) _).setCell (p := ⟨w.heap.size, 2, none⟩) (fun _ => rfl) _).setCell (p := ⟨w.heap.size, 3, none⟩) (fun _ => rfl) _
      rw [hln] at HFin e3
      clear HF HX HO HR HOn hln HSH
      go_wp2
      refine bodyPost_ret (v := .agg #[.string nm, .bool sh, .int .i64 (vz : Int), .slice ao j ac]) (results_cell_row rfl _ _ w.heap.size 50 _ _ _ rfl (HYH.out _) Try.underlying50 rfl (by kernel_rfl)) rfl ?_
      obtain ⟨ve, h1, h2⟩ := HFin.out _ (HYO.out _ _ _ _)
      exact ⟨ve, by rw [h1], h2⟩
end Go.Proofs.Ytfmnbabkdpiboaa
/- All files, read. -/
namespace Go.Proofs.Ytfmnbabkdpiboaa
open Go.RowKit
open Fr (rdV rdT bs str_len)

def nFilesL (o : Option (List UInt8)) : Nat → List Fl × Option (List UInt8)
  | 0 => ([], o)
  | n + 1 => ((nFilesL o n).1 ++ [(nFile (nFilesL o n).2).1], (nFile (nFilesL o n).2).2)
theorem nFilesL_len (o : Option (List UInt8)) (n : Nat) : (nFilesL o n).1.length = n := by
  induction n with
  | zero => rfl
  | succ n ih => rw [nFilesL]; simp [ih]
theorem nFilesL_cons (o : Option (List UInt8)) (n : Nat) : nFilesL o (n + 1) = ((nFile o).1 :: (nFilesL (nFile o).2 n).1, (nFilesL (nFile o).2 n).2) := by
  induction n with
  | zero => rfl
  | succ n ih => rw [nFilesL, ih]; simp [nFilesL]
theorem nFilesL_none (n : Nat) : (nFilesL none n).2 = none := by
  induction n with
  | zero => rfl
  | succ n ih => rw [nFilesL]; simp only [ih]; exact nFile_none
theorem nFilesL_yes {n : Nat} {l r : List UInt8} {L : List Fl} (h : pFiles n l = some (L, r)) : nFilesL (some l) n = (L, some r) := by
  induction n generalizing l L with
  | zero => cases h; rfl
  | succ n ih =>
    rw [pFiles] at h
    simp only [Option.bind_eq_bind] at h
    cases e1 : pFile l with
    | none => rw [e1] at h; cases h
    | some p1 =>
      obtain ⟨f, l1⟩ := p1
      rw [e1] at h; simp only [Option.bind_some] at h
      cases e3 : pFiles n l1 with
      | none => rw [e3] at h; cases h
      | some p3 =>
        obtain ⟨L', l3⟩ := p3
        rw [e3] at h; simp only [Option.bind_some, Option.pure_def, Option.some.injEq, Prod.mk.injEq] at h
        obtain ⟨rfl, rfl⟩ := h
        rw [nFilesL_cons, nFile_yes e1, ih e3]
theorem nFilesL_no {n : Nat} {l : List UInt8} (h : pFiles n l = none) : (nFilesL (some l) n).2 = none := by
  induction n generalizing l with
  | zero => cases h
  | succ n ih =>
    rw [pFiles] at h
    simp only [Option.bind_eq_bind] at h
    rw [nFilesL_cons]
    cases e1 : pFile l with
    | none => rw [nFile_no e1]; exact nFilesL_none n
    | some p1 =>
      obtain ⟨f, l1⟩ := p1
      rw [e1] at h; simp only [Option.bind_some] at h
      rw [nFile_yes e1]
      cases e3 : pFiles n l1 with
      | none => exact ih e3
      | some p3 => rw [e3] at h; obtain ⟨L', l3⟩ := p3; cases h
def nDir (o : Option (List UInt8)) : List Fl × Option (List UInt8) := nFilesL (nNum 64 o).2 (nNum 64 o).1
theorem nDir_yes {l r : List UInt8} {L : List Fl} (h : pDir l = some (L, r)) : nDir (some l) = (L, some r) := by
  unfold pDir at h
  simp only [Option.bind_eq_bind] at h
  cases e1 : pNum 64 l with
  | none => rw [e1] at h; cases h
  | some p1 =>
    obtain ⟨n, l1⟩ := p1
    rw [e1] at h; simp only [Option.bind_some] at h
    unfold nDir
    rw [nNum_yes e1]; exact nFilesL_yes h
theorem nDir_no {l : List UInt8} (h : pDir l = none) : (nDir (some l)).2 = none := by
  unfold pDir at h
  simp only [Option.bind_eq_bind] at h
  unfold nDir
  cases e1 : pNum 64 l with
  | none => rw [nNum_no e1]; exact nFilesL_none _
  | some p1 =>
    obtain ⟨n, l1⟩ := p1
    rw [e1] at h; simp only [Option.bind_some] at h
    rw [nNum_yes e1]; exact nFilesL_no h

/-! A row of files of one's own. -/
def flatF (P : List (Fl × Value)) : List Value := P.flatMap fun p => [.string p.1.name, .bool p.1.shut, .int .i64 p.1.size, p.2]
theorem flatF_length (P : List (Fl × Value)) : (flatF P).length = P.length * 4 := by
  induction P with
  | nil => rfl
  | cons p r ih => unfold flatF at *; rw [List.flatMap_cons, List.length_append, ih, List.length_cons]; simp; omega
theorem flatF_append (P Q : List (Fl × Value)) : flatF (P ++ Q) = flatF P ++ flatF Q := by simp [flatF]
theorem flatF_at (P : List (Fl × Value)) (i : Nat) (h : i < P.length) (k : Nat) (hk : k < 4) : (flatF P)[i * 4 + k]? = [Value.string P[i].1.name, .bool P[i].1.shut, .int .i64 P[i].1.size, P[i].2][k]? := by
  induction P generalizing i with
  | nil => cases h
  | cons p r ih =>
    have e : flatF (p :: r) = [Value.string p.1.name, .bool p.1.shut, .int .i64 p.1.size, p.2] ++ flatF r := rfl
    rw [e]
    cases i with
    | zero => rw [List.getElem?_append_left (by simp; omega)]; simp
    | succ j =>
      rw [List.getElem?_append_right (by simp; omega)]
      have := ih j (by simpa using h)
      simpa [show (j + 1) * 4 + k - 4 = j * 4 + k by omega] using this
def OwnF (T : TypeId) (B : Nat) (w : World) (v : Value) (L : List Fl) : Prop := ∃ P : List (Fl × Value), P.map (·.1) = L ∧ w.ownsRow B T 4 v L.length (flatF P) ∧ ∀ p ∈ P, OwnE B w p.2 p.1.ext
theorem OwnF.nil (T : TypeId) (B : Nat) (w : World) : OwnF T B w (.slice none 0 0) [] := ⟨[], rfl, World.ownsRow_nil _ _ _ _, by simp⟩
theorem OwnF.below {T : TypeId} {B : Nat} {w w' : World} {v : Value} {L : List Fl} (h : OwnF T B w v L) (hb : Below w.heap.size w w') : OwnF T B w' v L := by
  obtain ⟨P, h1, h2, h3⟩ := h
  exact ⟨P, h1, Go.Proofs.Ytfmnbabkdpiboaa.own_below h2 hb, fun p hp => (h3 p hp).below hb⟩
theorem OwnF.only {T : TypeId} {B : Nat} {w w' : World} {v : Value} {L : List Fl} {S : Nat → Prop} (h : OwnF T B w v L) (hb : Only S w w') (hS : ∀ k, B ≤ k → ¬ S k) : OwnF T B w' v L := by
  obtain ⟨P, h1, h2, h3⟩ := h
  exact ⟨P, h1, own_only h2 hb hS, fun p hp => own_only (h3 p hp) hb hS⟩
theorem OwnF.shape {T : TypeId} {B : Nat} {w : World} {v : Value} {L : List Fl} (h : OwnF T B w v L) : ∃ ao c, v = .slice ao L.length c := by
  obtain ⟨P, h1, h2, h3⟩ := h
  exact own_shapeE h2
theorem OwnF.sl {T : TypeId} {B : Nat} {w : World} {v : Value} {L : List Fl} (h : OwnF T B w v L) : SlF w v L := by
  obtain ⟨P, rfl, h2, h3⟩ := h
  rw [List.length_map] at h2
  rcases h2.2 with ⟨hv, hn⟩ | ⟨g, cap, cur, hv, hbg, hg, hc, _⟩
  · have e : P = [] := List.eq_nil_of_length_eq_zero hn
    subst e
    exact ⟨none, 0, hv, Nat.le_refl _, .inl rfl⟩
  · refine ⟨_, cap, by rw [List.length_map]; exact hv, by rw [List.length_map]; exact hc, .inr ⟨g, 0, rfl, (Array.getElem?_eq_some_iff.1 hg).1, fun j hj => ?_⟩⟩
    rw [List.length_map] at hj
    subst hv
    have hat : ∀ k, k < 4 → w.cell? ⟨g, 0 + j * 4 + k, none⟩ = [Value.string P[j].1.name, .bool P[j].1.shut, .int .i64 P[j].1.size, P[j].2][k]? := fun k hk => by
      rw [Nat.zero_add, World.ownsRow.cellAt h2 (j * 4 + k) (by omega), flatF_at P j hj k hk]
    have a0 := hat 0 (by omega); have a1 := hat 1 (by omega); have a2 := hat 2 (by omega); have a3 := hat 3 (by omega)
    rw [List.getElem_map]
    exact ⟨P[j].2, a0, a1, a2, a3, (h3 _ (List.getElem_mem hj)).sl⟩
theorem own_down {w : World} {base base' : Nat} {e : TypeId} {size : Nat} {v : Value} {n : Nat} {xs : List Value} (h : w.ownsRow base e size v n xs) (hb : base' ≤ base) : w.ownsRow base' e size v n xs := by
  refine ⟨h.1, ?_⟩
  rcases h.2 with hn | ⟨g, cap, cur, rfl, hbg, rest⟩
  · exact .inl hn
  · exact .inr ⟨g, cap, cur, rfl, Nat.le_trans hb hbg, rest⟩
theorem own_grown {B : Nat} {e : TypeId} {k : Nat} {v : Value} {n : Nat} {xs : List Value} {w w' : World} {o : Option Nat} (h : w.ownsRow B e k v n xs) (hb : w.grownBy w' o) (hS : ∀ q, v.ownBlock = some q → o ≠ some q) : w'.ownsRow B e k v n xs := by
  refine ⟨h.1, ?_⟩
  rcases h.2 with hn | ⟨g, cap, cur, rfl, hbg, hg, rest⟩
  · exact .inl hn
  · exact .inr ⟨g, cap, cur, rfl, hbg, by rw [grown_block hb (Array.getElem?_eq_some_iff.1 hg).1 (hS g rfl)]; exact hg, rest⟩
/-- Rows of two types never share a block. -/
theorem own_apart {w : World} {B B' : Nat} {e t : TypeId} {k k' n n' : Nat} {r r' : Value} {xs xs' : List Value} (h : w.ownsRow B e k r n xs) (h' : w.ownsRow B' t k' r' n' xs') (hne : e ≠ t) : ∀ q, r.ownBlock = some q → r'.ownBlock ≠ some q := by
  intro q hq hq'
  rcases h'.2 with ⟨rfl, _⟩ | ⟨g, cap, cur, rfl, _, hg, _⟩
  · cases hq'
  · simp [Value.ownBlock] at hq'; subst hq'; exact own_not h hg hne hq
theorem own_one {w : World} {B : Nat} {e : TypeId} {k n : Nat} {r : Value} {xs : List Value} (h : w.ownsRow B e k r n xs) : r.oneCell' = true := by
  obtain ⟨ao, c, rfl⟩ := own_shapeE h
  rfl
theorem _root_.Go.Proofs.Try.infoFl : (Try.prog.info? 50).map (fun i => (i.zero, i.size, i.bytes)) = some (some (.agg #[.string ⟨#[]⟩, .bool false, .int .i64 0, .slice none 0 0]), 4, 56) := by kernel_rfl
/-- One file more. -/
theorem OwnF.push {T : TypeId} {B : Nat} {w w' : World} {v v' : Value} {L : List Fl} {P : List (Fl × Value)} {f : Fl} {ve : Value} (hT : 52 ≠ T) (hP : P.map (·.1) = L) (ho : w.ownsRow B T 4 v L.length (flatF P)) (he : ∀ p ∈ P, OwnE B w p.2 p.1.ext) (hf : OwnE B w ve f.ext)
    (hown : w'.ownsRow B T 4 v' (L.length + 1) (flatF P ++ [.string f.name, .bool f.shut, .int .i64 f.size, ve])) (hg : w.grownBy w' v.ownBlock) : OwnF T B w' v' (L ++ [f]) := by
  refine ⟨P ++ [(f, ve)], by simp [hP], ?_, fun p hp => ?_⟩
  · rw [flatF_append, List.length_append]; exact hown
  · have hx : ∀ {u : Value} {E : List (Int × Int)}, OwnE B w u E → OwnE B w' u E := fun h => own_grown h hg (own_apart h ho hT)
    rcases List.mem_append.1 hp with hp | hp
    · exact hx (he p hp)
    · rw [List.mem_singleton.1 hp]; exact hx hf
theorem four_cells {w : World} {g : Nat} {x y z u : Value} {t : TypeId} {fz : Nat × Nat} (h : w.heap[g]? = some (.cells #[x, y, z, u] t fz)) : ∀ j v, [x, y, z, u][j]? = some v → w.cell? ((⟨g, 0, none⟩ : Addr).add j) = some v := by
  intro j v hv
  rw [add_at, Nat.zero_add, cell_at h]
  simpa using hv
set_option maxRecDepth 100000 in
set_option maxHeartbeats 4000000 in
theorem filesR_any (o : Option (List UInt8)) (g : Nat) (w : World) (h : RdOK w g o) :
    Calls Try.prog 41 #[.pointer (some ⟨g, 0, none⟩)] w fun e w' => ∃ v, e = .returned v ∧ Hid (OwnF 50 w.heap.size w' v (nDir o).1) ∧ Hid (RdOK w' g (nDir o).2) ∧ Hid (Only (fun k => k = g) w w') := by
  obtain ⟨i0, hi, hz0, hz1, hz2⟩ := info_parts Try.infoFl
  have HZ2 := Lib.hid hz2; clear hz2
  have hg := h.lt
  have HR0 := Lib.hid h; clear h
  have HN1 := Lib.hid fun W h => number_any 64 (by omega) o g W h
  have hm := nNum_le 64 o
  have HND : Hid (nDir o = nFilesL (nNum 64 o).2 (nNum 64 o).1) := rfl
  rw [HND.out]
  clear HND
  generalize nNum 64 o = q at *
  obtain ⟨m, o1⟩ := q
  dsimp only at *
  go_enter Try.func41, Try.ntmps41
  go_wp2_with fail
  refine (HN1.out _ HR0.out).mono ?_
  rintro e w1 ⟨rfl, HR1, HO1⟩
  clear HN1 HR0
  go_wp2_with fail
  go_loopw [3, 6] (fun fv jv wr => ∃ (j : Nat), j ≤ m ∧ jv = .int .i64 (j : Int) ∧ Hid (OwnF 50 w.heap.size wr fv (nFilesL o1 j).1) ∧ Hid (RdOK wr g (nFilesL o1 j).2) ∧ Hid (Only (fun k => k = g) w wr)) (fun _ jv _ => m - (intOf jv).toNat)
  case atStart => exact ⟨0, Nat.zero_le _, rfl, OwnF.nil _ _ _, HR1, HO1⟩
  case round =>
    obtain ⟨j, hj, rfl, HO, HR, HOn⟩ := hrel
    clear HR1 HO1
    have hsz := HOn.out.size
    by_cases hjm : j < m
    · have hjz : (j : Int) < (m : Int) := by omega
      have hlen := nFilesL_len o1 j
      have HN := Lib.hid (show nFilesL o1 (j + 1) = ((nFilesL o1 j).1 ++ [(nFile (nFilesL o1 j).2).1], (nFile (nFilesL o1 j).2).2) from rfl)
      generalize nFilesL o1 j = p at *
      obtain ⟨L, oo⟩ := p
      dsimp only at HO HR HN hlen
      have CF := Lib.hid fun W h => fileR_any oo g W h
      generalize nFile oo = q at *
      obtain ⟨f, p1⟩ := q
      dsimp only at HN CF
      obtain ⟨P, hP, ho, he⟩ := HO.out
      have HP := Lib.hid hP; have HOo := Lib.hid ho; have HE := Lib.hid he
      obtain ⟨ao, ac, hev⟩ := own_shapeE ho
      subst hev
      have hgw : ∀ k, w.heap.size ≤ k → ¬ k = g := fun k hk e => by omega
      clear hP ho he HO
      unfold fileAgg at CF
      go_wp2_with fail
      refine (CF.out _ HR.out).mono ?_
      rintro e w2 ⟨ve, rfl, HVe, HR2, HO2⟩
      obtain ⟨vo, vc, hve⟩ := own_shapeE HVe.out
      subst hve
      have hs2 := HO2.out.size
      have HOw2 : Hid (World.ownsRow (w2.alloc (.cells #[.string f.name, .bool f.shut, .int .i64 f.size, .slice vo f.ext.length vc] 50)) w.heap.size 50 4 (.slice ao L.length ac) L.length (flatF P)) := (own_only HOo.out HO2.out hgw).alloc _
      have HEw2 : Hid (∀ p ∈ P, OwnE w.heap.size (w2.alloc (.cells #[.string f.name, .bool f.shut, .int .i64 f.size, .slice vo f.ext.length vc] 50)) p.2 p.1.ext) := fun p hp => World.ownsRow.alloc (own_only (HE.out p hp) HO2.out hgw) _
      have HFw2 : Hid (OwnE w.heap.size (w2.alloc (.cells #[.string f.name, .bool f.shut, .int .i64 f.size, .slice vo f.ext.length vc] 50)) (.slice vo f.ext.length vc) f.ext) := World.ownsRow.alloc (own_down HVe.out hsz) _
      rw [hlen] at HOw2
      go_wp2_with (at_builtin; refine wpList_append_where _ rfl (.tmp 8) (.tmp 11) 22 rfl w.heap.size 50 i0 (.agg #[.string ⟨#[]⟩, .bool false, .int .i64 0, .slice none 0 0]) 4 56 Try.underlying22 hi hz0 hz1 HZ2.out rfl (by omega) _ j (flatF P) rfl HOw2.out ⟨w2.heap.size, 0, none⟩ 1 1 [.string f.name, .bool f.shut, .int .i64 f.size, .slice vo f.ext.length vc] rfl rfl (four_cells (heap_alloc_new _ _)) ?c1 ?c2 ?c3 ?c4 ?_)
      case c1 => simp [Value.oneCell']
      case c2 => unfold maxLen; omega
      case c3 => omega
      case c4 => simp; omega
      intro v9 w9 hown hgrow hwh
      have hV9 : OwnF 50 w.heap.size w9 v9 (L ++ [f]) := OwnF.push (by decide) HP.out (by rw [hlen]; exact HOw2.out) HEw2.out HFw2.out (by rw [hlen]; exact hown) hgrow
      obtain ⟨v9o, v9c, hv9⟩ := own_shapeE hown
      subst hv9
      have HV9 := Lib.hid hV9
      have hge : ∀ q, (Value.slice ao j ac).ownBlock = some q → w.heap.size ≤ q := fun q hq => (HOw2.out.lt q hq).1
      have HR9 : Hid (RdOK w9 g p1) := by
        obtain ⟨s, b, h2, rest⟩ := HR2.out.alloc (.cells #[.string f.name, .bool f.shut, .int .i64 f.size, .slice vo f.ext.length vc] 50)
        exact ⟨s, b, (grown_block hgrow (by simp; omega) (fun e => by have := hge g e; omega)).trans h2, rest⟩
      have HO9 : Hid (Only (fun k => k = g) w w9) := only_grown ((HOn.out.trans HO2.out (fun _ _ h => h)).alloc _) hgrow hge
      clear hV9 hown hgrow hwh hge HOw2 HEw2 HFw2 HR2 HO2 HVe HP HOo HE HR HOn CF
      go_wp2_with fail
      go_roundw
      case rel => exact ⟨j + 1, by omega, by go_num, by show OwnF _ _ _ _ _; rw [HN.out]; exact HV9.out, by show RdOK _ _ _; rw [HN.out]; exact HR9.out, HO9⟩
      case measure => simp [intOf]; omega
    · obtain rfl : j = m := by omega
      have hjz : ¬ (j : Int) < (j : Int) := by omega
      go_wp2_with fail
      go_ret
      exact ⟨_, rfl, HO, HR, HOn⟩
end Go.Proofs.Ytfmnbabkdpiboaa
