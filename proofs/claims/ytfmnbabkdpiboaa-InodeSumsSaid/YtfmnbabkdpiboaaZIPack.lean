/- What written, isDirectory, noughts and Pack answer. -/
import Derived.Test.YtfmnbabkdpiboaaZIIns
import Derived.Test.YtfmnbabkdpiboaaZIBase
import Derived.Test.YtfmnbabkdpiboaaZWFix
import Derived.Test.YtfmnbabkdpiboaaZShelf
import Derived.Test.YtfmnbabkdpiboaaZWCrc

namespace Go.Proofs.Ytfmnbabkdpiboaa
open Go.RowKit
open Fr (below_drewN varL textL varsL textsL bs fixL crcL)

theorem fileL_eq (f : Fl) : fileL f = textL f.name.data.toList ++ (varL (if f.shut then 1 else 0) ++ varL f.size.toNat ++ varL f.ext.length) ++ f.ext.flatMap extL := by unfold fileL; simp
/-- Two numbers, and three, as Var is handed them; a text. -/
theorem var_three (x y z : Nat) (hx : x < 18446744073709551616) (hy : y < 18446744073709551616) (hz : z < 18446744073709551616) (g : Nat) (w : World) (hg : w.heap[g]? = some (.cells #[.int .u64 (x : Int), .int .u64 (y : Int), .int .u64 (z : Int)] 84 (0, 0))) :
    Calls Try.prog 51 #[.slice (some ⟨g, 0, none⟩) 3 3] w fun e w' => e = .returned (.string (bs (varL x ++ varL y ++ varL z))) ∧ Below w.heap.size w w' := by
  have h := Fr.var_some [x, y, z] g 0 3 w (by simp) (fun q hq => by simp at hq; omega) (Array.getElem?_eq_some_iff.1 hg).1 (fun j hj => by
    rw [Fr.cell_at hg]
    match j, hj with
    | 0, _ => rfl
    | 1, _ => rfl
    | 2, _ => rfl)
  refine h.mono fun e w' ⟨he, hb⟩ => ⟨?_, hb⟩
  rw [he]
  simp [varsL]
theorem var_two (x y : Nat) (hx : x < 18446744073709551616) (hy : y < 18446744073709551616) (g : Nat) (w : World) (hg : w.heap[g]? = some (.cells #[.int .u64 (x : Int), .int .u64 (y : Int)] 84 (0, 0))) :
    Calls Try.prog 51 #[.slice (some ⟨g, 0, none⟩) 2 2] w fun e w' => e = .returned (.string (bs (varL x ++ varL y))) ∧ Below w.heap.size w w' := by
  have h := Fr.var_some [x, y] g 0 2 w (by simp) (fun q hq => by simp at hq; omega) (Array.getElem?_eq_some_iff.1 hg).1 (fun j hj => by
    rw [Fr.cell_at hg]
    match j, hj with
    | 0, _ => rfl
    | 1, _ => rfl)
  refine h.mono fun e w' ⟨he, hb⟩ => ⟨?_, hb⟩
  rw [he]
  simp [varsL]
theorem text_one (s : ByteArray) (hs : s.size ≤ 1000000) (g : Nat) (w : World) (hg : w.heap[g]? = some (.cells #[.string s] 9 (0, 0))) :
    Calls Try.prog 52 #[.slice (some ⟨g, 0, none⟩) 1 1] w fun e w' => e = .returned (.string (bs (textL s.data.toList))) ∧ Below w.heap.size w w' := by
  have h := Fr.text_some [s] g 0 1 w (by simp) (fun q hq => by simp at hq; subst hq; exact hs) (Array.getElem?_eq_some_iff.1 hg).1 (fun j hj => by
    obtain rfl : j = 0 := by simp at hj; omega
    rw [Fr.cell_at hg]; rfl)
  refine h.mono fun e w' ⟨he, hb⟩ => ⟨?_, hb⟩
  rw [he]
  simp [textsL]
theorem alloc2_new (w : World) (a b : Obj) : ((w.alloc a).alloc b).heap[w.heap.size + 1]? = some b := by
  have := heap_alloc_new (w.alloc a) b
  simpa using this
/-- How long what is written may get. -/
theorem extL_len (x : Int × Int) (h : Small ⟨⟨#[]⟩, false, 0, [x]⟩) : (extL x).length ≤ 20 := by
  have := h.ext x (by simp)
  unfold extL
  rw [List.length_append]
  have h1 := Fr.varL_ten x.1.toNat (by omega)
  have h2 := Fr.varL_ten x.2.toNat (by omega)
  omega
theorem exts_len (E : List (Int × Int)) (h : ∀ x ∈ E, 0 ≤ x.1 ∧ x.1 ≤ 4096 ∧ 0 ≤ x.2 ∧ x.2 ≤ 4096) : (E.flatMap extL).length ≤ 20 * E.length := by
  induction E with
  | nil => simp
  | cons x r ih =>
    have h0 := h x (by simp)
    have h1 := Fr.varL_ten x.1.toNat (by omega)
    have h2 := Fr.varL_ten x.2.toNat (by omega)
    have := ih fun y hy => h y (by simp [hy])
    rw [List.flatMap_cons, List.length_append, List.length_cons, extL, List.length_append]
    omega
structure Tiny (f : Fl) : Prop extends Small f where
  short : f.name.size ≤ 24
theorem fileL_len (f : Fl) (h : Tiny f) : (fileL f).length ≤ 400 := by
  have h1 := exts_len f.ext h.ext
  have h2 := h.few
  have h3 := h.size
  have h4 := Fr.varL_ten (if f.shut then 1 else 0) (by split <;> omega)
  have h5 := Fr.varL_ten f.size.toNat (by omega)
  have h6 := Fr.varL_ten f.ext.length (by omega)
  have h7 := h.short
  have h8 : (textL f.name.data.toList).length ≤ 34 := by
    unfold textL
    have h9 : f.name.data.toList.length = f.name.size := by simp
    have := Fr.varL_ten f.name.data.toList.length (by omega)
    rw [List.length_append]; omega
  rw [fileL_eq]
  simp only [List.length_append]
  omega
theorem files_len (L : List Fl) (h : ∀ f ∈ L, Tiny f) : (L.flatMap fileL).length ≤ 400 * L.length := by
  induction L with
  | nil => simp
  | cons f r ih =>
    have := fileL_len f (h f (by simp))
    have := ih fun y hy => h y (by simp [hy])
    rw [List.flatMap_cons, List.length_append, List.length_cons]
    omega
theorem RightP.tiny {L : List Fl} (h : RightP L 0 4096) : ∀ f ∈ L, Tiny f := fun f hf => ⟨h.small f hf, by
  have hn := h.2.names f hf
  unfold okName at hn
  simp only [Bool.and_eq_true, decide_eq_true_eq] at hn
  exact hn.1.2⟩
end Go.Proofs.Ytfmnbabkdpiboaa
/- What written answers. -/
namespace Go.Proofs.Ytfmnbabkdpiboaa
open Go.RowKit
open Fr (below_drewN varL textL varsL textsL bs fixL crcL)

theorem bs_app (l m : List UInt8) : bs l ++ bs m = bs (l ++ m) := by
  apply ByteArray.ext
  rw [ByteArray.data_append]
  unfold bs
  simp
theorem take_files (L : List Fl) (k : Nat) (h : k < L.length) : (L.take (k + 1)).flatMap fileL = (L.take k).flatMap fileL ++ fileL L[k] := by
  rw [List.take_succ_eq_append_getElem h, List.flatMap_append]; simp
theorem take_exts (E : List (Int × Int)) (k : Nat) (h : k < E.length) : (E.take (k + 1)).flatMap extL = (E.take k).flatMap extL ++ extL E[k] := by
  rw [List.take_succ_eq_append_getElem h, List.flatMap_append]; simp
set_option maxRecDepth 100000 in
set_option maxHeartbeats 8000000 in
theorem written_any (L : List Fl) (v : Value) (w : World) (h : SlF w v L) (hn : L.length ≤ 64) (hT : ∀ f ∈ L, Tiny f) : Calls Try.prog 35 #[v] w fun e w' => e = .returned (.string (bs (dirL L))) ∧ Below w.heap.size w w' := by
  obtain ⟨ao, c, rfl, hat⟩ := h.shape
  have HAt := Lib.hid hat; clear hat h
  have HB := Lib.hid (Below.refl w.heap.size w)
  have HTy := Lib.hid hT; clear hT
  obtain ⟨n, hl⟩ : ∃ n, L.length = n := ⟨_, rfl⟩
  have HN := Lib.hid hl
  have HD : Hid (dirL L = [67, 68, 88, 73] ++ varL n ++ L.flatMap fileL) := by show _ = _; unfold dirL; rw [hl]
  rw [hl] at hn ⊢
  clear hl
  have HV1 := Lib.hid fun W => Fr.var_one n (by omega) W
  obtain ⟨s1, hs1, HS1⟩ : ∃ s1, s1.size ≤ 10 ∧ Hid (bs (varL n) = s1) := ⟨_, by rw [Fr.bs_size]; exact Fr.varL_ten n (by omega), rfl⟩
  rw [HS1.out] at HV1
  have HC0 : Hid (∀ W : World, ∃ cap W2, (convert 9 44 (.string (⟨#[67, 68, 88, 73]⟩ ++ s1))).run Try.prog W = .ok (.slice (some ⟨W.heap.size, 0, none⟩) ([67, 68, 88, 73] ++ varL n).length cap) W2 ∧ BRw W.heap.size W2 W.heap.size cap ([67, 68, 88, 73] ++ varL n) ∧ Below W.heap.size W W2) := fun W => by
    have e : (⟨#[67, 68, 88, 73]⟩ ++ s1 : ByteArray) = bs ([67, 68, 88, 73] ++ varL n) := by rw [← HS1.out]; exact bs_app [67, 68, 88, 73] (varL n)
    have h10 := Fr.varL_ten n (by omega)
    obtain ⟨cap, W2, h1, h2, h3⟩ := BRw.new W (bs ([67, 68, 88, 73] ++ varL n)) (by rw [Fr.bs_size, List.length_append]; simp; omega)
    rw [e]
    rw [Fr.bs_size] at h1
    exact ⟨cap, W2, h1, h2, h3⟩
  have hadd := fun (W : World) => run_string_add_sum (P := Try.prog) W ⟨#[67, 68, 88, 73]⟩ s1 (by have : (⟨#[67, 68, 88, 73]⟩ : ByteArray).size = 4 := rfl; omega)
  have hwn : IntKind.u64.wrap (n : Int) = (n : Int) := by rw [IntKind.wrap_u64]; omega
  have hl0 : ([67, 68, 88, 73] ++ varL n).length ≤ 14 := by rw [List.length_append]; have := Fr.varL_ten n (by omega); simp; omega
  generalize hA0 : ([67, 68, 88, 73] ++ varL n) = A0 at *
  clear hA0
  go_enter Try.func35, Try.ntmps35
  go_wp2_with (first
    | (go_at_call 51; refine (HV1.out _).mono ?_; rintro e w1 ⟨rfl, hb1⟩; have HB1 : Hid (Below w.heap.size w w1) := hb1; clear hb1; obtain ⟨cap0, W2, hcv, hrow, hb2⟩ := HC0.out w1; have HR0 := Lib.hid hrow; have HB2 := Lib.hid hb2; clear hrow hb2))
  have hb1 := HB1.out.size
  have HR1 : Hid (BRw w.heap.size W2 w1.heap.size cap0 A0) := ⟨hb1, HR0.out.lt, HR0.out.le, HR0.out.max, HR0.out.byte, HR0.out.cells, HR0.out.fr⟩
  have HB3 : Hid (Below w.heap.size w W2) := HB1.out.trans (HB2.out.mono hb1)
  clear HV1 HC0 hadd hcv HR0 HB2
  go_loopw [3, 18] (fun bv kv wr => ∃ (k g cap : Nat) (l : List UInt8), k ≤ n ∧ kv = .int .i64 (k : Int) ∧ bv = .slice (some ⟨g, 0, none⟩) l.length cap ∧ l.length ≤ 14 + 400 * k ∧ Hid (l = A0 ++ (L.take k).flatMap fileL) ∧ Hid (BRw w.heap.size wr g cap l) ∧ Hid (Below w.heap.size w wr)) (fun _ kv _ => n - (intOf kv).toNat)
  case atStart => exact ⟨0, w1.heap.size, cap0, A0, Nat.zero_le _, rfl, rfl, by omega, by show _ = _; simp, HR1, HB3⟩
  case round =>
    clear HR1 HB3 HB1 hb1
    obtain ⟨k, g, cap, l, hk, rfl, rfl, hll, HL, HR, HBr⟩ := hrel
    obtain ⟨wo, hwo⟩ : ∃ W, W = wr := ⟨_, rfl⟩
    subst hwo
    have hbr := HBr.out.size
    by_cases hlt : k < n
    · have hkz : (k : Int) < (n : Int) := by omega
      have hkL : k < L.length := by rw [HN.out]; exact hlt
      obtain ⟨bb, off, ve, rfl, hF, hFe⟩ := HAt.out _ HBr.out k hkL
      obtain ⟨eo, ec, hve, hae⟩ := hFe.shape
      subst hve
      have HAe := Lib.hid hae; clear hae hFe
      obtain ⟨x0, x1, x2, x3, hext⟩ := hF
      clear hext
      have hty := HTy.out L[k] (List.getElem_mem hkL)
      have HTk := Lib.hid (take_files L k hkL)
      have HFl := Lib.hid (fileL_len _ hty)
      obtain ⟨f, hf⟩ : ∃ f, L[k] = f := ⟨_, rfl⟩
      rw [hf] at x0 x1 x2 x3 HAe hty HTk HFl
      clear hf hkL
      have HFe := Lib.hid (fileL_eq f)
      have HEx := Lib.hid hty.ext
      have h16 := hty.few
      have hsh := hty.short
      obtain ⟨hz0, hz1⟩ := hty.size
      obtain ⟨nm, sh, sz, E⟩ := f
      dsimp only at x0 x1 x2 x3 HAe HFe HEx h16 hsh hz0 hz1
      obtain ⟨z, rfl⟩ : ∃ z : Nat, sz = (z : Int) := ⟨sz.toNat, by omega⟩
      obtain ⟨m, hm⟩ : ∃ m, E.length = m := ⟨_, rfl⟩
      have HM := Lib.hid hm
      have hwz : IntKind.u64.wrap (z : Int) = (z : Int) := by rw [IntKind.wrap_u64]; omega
      have hwm : IntKind.u64.wrap (m : Int) = (m : Int) := by rw [IntKind.wrap_u64]; omega
      have HTx := Lib.hid fun g W hg => text_one nm (by omega) g W hg
      rw [hm] at x3 h16
      have HEL := Lib.hid (exts_len E HEx.out)
      have htl : (textL nm.data.toList).length ≤ 34 := by
        unfold textL
        have h9 : nm.data.toList.length = nm.size := by simp
        have := Fr.varL_ten nm.data.toList.length (by omega)
        rw [List.length_append]; omega
      cases sh
      · have HV3 := Lib.hid fun g W hg => var_three 0 z m (by omega) (by omega) (by omega) g W hg
        have HFq : Hid (fileL ⟨nm, false, (z : Int), E⟩ = textL nm.data.toList ++ (varL 0 ++ varL z ++ varL m) ++ E.flatMap extL) := by
          show _ = _; rw [HFe.out, hm]; rfl
        have HBX : Hid ((wo.alloc (.cells #[.string nm, .bool false, .int .i64 (z : Int), .slice eo m ec] 50)).heap[wo.heap.size]? = some (.cells #[.string nm, .bool false, .int .i64 (z : Int), .slice eo m ec] 50 (0, 0))) := heap_alloc_new wo _
        clear HFe hm
        go_wp2_with fail
        refine (HTx.out _ _ (alloc2_new _ _ _)).mono ?_
        rintro e w2 ⟨rfl, hb2⟩
        have HBo2 : Hid (Below (wo.heap.size + 1) (wo.alloc (.cells #[.string nm, .bool false, .int .i64 (z : Int), .slice eo m ec] 50)) w2) := (((Below.refl _ _).alloc (by simp) _)).trans (hb2.mono (by simp; try omega))
        clear hb2
        have HBX2 : Hid (w2.heap[wo.heap.size]? = some (.cells #[.string nm, .bool false, .int .i64 (z : Int), .slice eo m ec] 50 (0, 0))) := (HBo2.out.block _ (by omega)).trans HBX.out
        have HBw2 : Hid (Below wo.heap.size wo w2) := ((Below.refl _ _).alloc (Nat.le_refl _) _).trans (HBo2.out.mono (by omega))
        have hs2 : wo.heap.size + 1 ≤ w2.heap.size := by have := HBo2.out.size; simpa using this
        obtain ⟨g2, cap2, w3, hap2, hr2, hb3, hgr2, hg2⟩ := BRw.app (HR.out.below HBw2.out) (by omega) 44 (bs (textL nm.data.toList)) (by rw [Fr.bs_size]; omega)
        have hglt := HR.out.lt
        have HBX3 : Hid (w3.heap[wo.heap.size]? = some (.cells #[.string nm, .bool false, .int .i64 (z : Int), .slice eo m ec] 50 (0, 0))) := (hgr2.block _ (by omega) (fun e => by cases e; omega)).trans HBX2.out
        have HBw3 : Hid (Below w.heap.size w w3) := HBr.out.trans ((HBw2.out.mono hbr).trans hb3)
        have hs3 := hgr2.size
        have hg2' : g2 ≠ wo.heap.size := by rcases hg2 with e | e <;> omega
        have HR3 := Lib.hid hr2
        have hlen2 : (l ++ (bs (textL nm.data.toList)).data.toList).length = l.length + (bs (textL nm.data.toList)).size := by rw [List.length_append]; simp
        have hsz2 : (bs (textL nm.data.toList)).size ≤ 34 := by rw [Fr.bs_size]; exact htl
        have HT2 : Hid ((bs (textL nm.data.toList)).data.toList = textL nm.data.toList) := by show _ = _; unfold bs; simp
        generalize bs (textL nm.data.toList) = t2 at *
        clear hr2 hb3 hgr2 hg2 HBX HBX2
        have d0 := Fr.cell_at (k := 2) HBX3.out
        have d1 := Fr.cell_at (k := 3) HBX3.out
        go_wp2_with (at_builtin; refine wpList_runs rfl (ex_append rfl rfl rfl hap2) ?_)
        refine (HV3.out _ _ (heap_alloc_new _ _)).mono ?_
        rintro e w4 ⟨rfl, hb4⟩
        have HBw4 : Hid (Below w3.heap.size w3 w4) := ((Below.refl _ _).alloc (Nat.le_refl _) _).trans (hb4.mono (by simp))
        clear hb4
        have hs4 := HBw4.out.size
        have HBX4 : Hid (w4.heap[wo.heap.size]? = some (.cells #[.string nm, .bool false, .int .i64 (z : Int), .slice eo m ec] 50 (0, 0))) := (HBw4.out.block _ (by omega)).trans HBX3.out
        have hv30 : (varL 0 ++ varL z ++ varL m).length ≤ 30 := by
          have h1 := Fr.varL_ten 0 (by omega); have h2 := Fr.varL_ten z (by omega); have h3 := Fr.varL_ten m (by omega)
          simp only [List.length_append]; omega
        obtain ⟨g3, cap3, w5, hap3, hr3, hb5, hgr3, hg3⟩ := BRw.app (HR3.out.below HBw4.out) (by omega) 44 (bs (varL 0 ++ varL z ++ varL m)) (by rw [Fr.bs_size, hlen2]; omega)
        have HBX5 : Hid (w5.heap[wo.heap.size]? = some (.cells #[.string nm, .bool false, .int .i64 (z : Int), .slice eo m ec] 50 (0, 0))) := (hgr3.block _ (by omega) (fun e => by cases e; exact hg2' rfl)).trans HBX4.out
        have HBw5 : Hid (Below w.heap.size w w5) := HBw3.out.trans ((HBw4.out.mono (by omega)).trans hb5)
        have HR5 := Lib.hid hr3
        have hsz3 : (bs (varL 0 ++ varL z ++ varL m)).size ≤ 30 := by rw [Fr.bs_size]; exact hv30
        have HT3 : Hid ((bs (varL 0 ++ varL z ++ varL m)).data.toList = varL 0 ++ varL z ++ varL m) := by show _ = _; unfold bs; simp
        generalize bs (varL 0 ++ varL z ++ varL m) = t3 at *
        clear hr3 hb5 hgr3 hg3 HBX3 HBX4 d0 d1
        have d1 := Fr.cell_at (k := 3) HBX5.out
        rw [hlen2] at hap3
        go_wp2_with (at_builtin; refine wpList_runs rfl (ex_append rfl rfl rfl hap3) ?_)
        have hlen3 : ((l ++ t2.data.toList) ++ t3.data.toList).length = l.length + t2.size + t3.size := by rw [List.length_append, hlen2]; simp
        have HL5 : Hid ((l ++ t2.data.toList) ++ t3.data.toList = l ++ (textL nm.data.toList ++ (varL 0 ++ varL z ++ varL m))) := by show _ = _; rw [HT2.out, HT3.out, List.append_assoc]
        generalize (l ++ t2.data.toList) ++ t3.data.toList = l5 at *
        rw [← hlen3]
        have hl5 : l5.length ≤ 14 + 400 * k + 64 := by omega
        clear HT2 HT3 hlen2 hlen3 hap2 hap3 hsz2 hsz3 hs2 hs3 hs4 hg2' HBX5 d1 hglt
        go_loopw [3, 45] (fun bv jv wr => ∃ (j g cap : Nat) (q : List UInt8), j ≤ m ∧ jv = .int .i64 (j : Int) ∧ bv = .slice (some ⟨g, 0, none⟩) q.length cap ∧ q.length ≤ 14 + 400 * k + 64 + 20 * j ∧ Hid (q = l5 ++ (E.take j).flatMap extL) ∧ Hid (BRw w.heap.size wr g cap q) ∧ Hid (Below w.heap.size w wr)) (fun _ jv _ => m - (intOf jv).toNat)
        case atStart => exact ⟨0, g3, cap3, l5, Nat.zero_le _, rfl, rfl, by omega, by show _ = _; simp, HR5, HBw5⟩
        case round =>
          clear HR5 HBw5 HR3 HBw3 HR
          obtain ⟨j, g, cap, q, hj, rfl, rfl, hql, HQ, HR, HBq⟩ := hrel
          have hbq := HBq.out.size
          by_cases hjm : j < m
          · have hjz : (j : Int) < (m : Int) := by omega
            have hjE : j < E.length := by rw [HM.out]; exact hjm
            obtain ⟨be, oe, rfl, y0, y1⟩ := HAe.out _ HBq.out j hjE
            have hx := HEx.out E[j] (List.getElem_mem hjE)
            have HTj := Lib.hid (take_exts E j hjE)
            generalize E[j] = x at *
            clear hjE
            obtain ⟨xs, xc⟩ := x
            dsimp only at y0 y1 hx
            obtain ⟨x1, rfl⟩ : ∃ q : Nat, xs = (q : Int) := ⟨xs.toNat, by omega⟩
            obtain ⟨x2, rfl⟩ : ∃ q : Nat, xc = (q : Int) := ⟨xc.toNat, by omega⟩
            have hw1 : IntKind.u64.wrap (x1 : Int) = (x1 : Int) := by rw [IntKind.wrap_u64]; omega
            have hw2 : IntKind.u64.wrap (x2 : Int) = (x2 : Int) := by rw [IntKind.wrap_u64]; omega
            have HV2 := Lib.hid fun g W hg => var_two x1 x2 (by omega) (by omega) g W hg
            have HXL : Hid (extL ((x1 : Int), (x2 : Int)) = varL x1 ++ varL x2) := rfl
            have hv20 : (varL x1 ++ varL x2).length ≤ 20 := by
              have h1 := Fr.varL_ten x1 (by omega); have h2 := Fr.varL_ten x2 (by omega)
              rw [List.length_append]; omega
            go_wp2_with fail
            refine (HV2.out _ _ (alloc2_new _ _ _)).mono ?_
            rintro e w6 ⟨rfl, hb6⟩
            have HB6 : Hid (Below wr.heap.size wr w6) := ((Below.refl _ _).alloc (Nat.le_refl _) _).trans (((Below.refl _ _).alloc (by simp) _).trans (hb6.mono (by simp; try omega)))
            clear hb6
            obtain ⟨g6, cap6, w7, hap6, hr6, hb7, _, _⟩ := BRw.app (HR.out.below HB6.out) (by have := HB6.out.size; omega) 44 (bs (varL x1 ++ varL x2)) (by rw [Fr.bs_size]; omega)
            have HR7 := Lib.hid hr6
            have HB7 : Hid (Below w.heap.size w w7) := HBq.out.trans ((HB6.out.mono hbq).trans hb7)
            have hlen6 : (q ++ (bs (varL x1 ++ varL x2)).data.toList).length = q.length + (bs (varL x1 ++ varL x2)).size := by rw [List.length_append]; simp
            have hsz6 : (bs (varL x1 ++ varL x2)).size ≤ 20 := by rw [Fr.bs_size]; exact hv20
            have HT6 : Hid ((bs (varL x1 ++ varL x2)).data.toList = varL x1 ++ varL x2) := by show _ = _; unfold bs; simp
            generalize bs (varL x1 ++ varL x2) = t6 at *
            have HL7 : Hid (q ++ t6.data.toList = l5 ++ (E.take (j + 1)).flatMap extL) := by show _ = _; rw [HT6.out, HQ.out, HTj.out, HXL.out, List.append_assoc]
            clear hr6 hb7 HT6 HTj HXL
            go_wp2_with (at_builtin; refine wpList_runs rfl (ex_append rfl rfl rfl hap6) ?_)
            go_roundw
            case rel => exact ⟨j + 1, g6, cap6, q ++ t6.data.toList, by omega, by go_num, by rw [hlen6], by omega, HL7, HR7, HB7⟩
            case measure => simp [intOf]; omega
          · obtain rfl : j = m := by omega
            have hjz : ¬ (j : Int) < (j : Int) := by omega
            have HLF : Hid (q = A0 ++ (L.take (k + 1)).flatMap fileL) := by
              have hE : E.take j = E := List.take_of_length_le (by rw [HM.out]; exact Nat.le_refl _)
              show _ = _
              rw [HQ.out, hE, HL5.out, HL.out, HTk.out, HFq.out]
              simp only [List.append_assoc]
            clear HL5 HTk HFq HQ HEx HAe HL
            go_wp2_with fail
            go_roundw
            case rel => exact ⟨k + 1, g, cap, q, by omega, by go_num, rfl, by omega, HLF, HR, HBq⟩
            case measure => simp [intOf]; omega
      · have HV3 := Lib.hid fun g W hg => var_three 1 z m (by omega) (by omega) (by omega) g W hg
        have HFq : Hid (fileL ⟨nm, true, (z : Int), E⟩ = textL nm.data.toList ++ (varL 1 ++ varL z ++ varL m) ++ E.flatMap extL) := by
          show _ = _; rw [HFe.out, hm]; rfl
        have HBX : Hid ((wo.alloc (.cells #[.string nm, .bool true, .int .i64 (z : Int), .slice eo m ec] 50)).heap[wo.heap.size]? = some (.cells #[.string nm, .bool true, .int .i64 (z : Int), .slice eo m ec] 50 (0, 0))) := heap_alloc_new wo _
        clear HFe hm
        go_wp2_with fail
        refine (HTx.out _ _ (alloc2_new _ _ _)).mono ?_
        rintro e w2 ⟨rfl, hb2⟩
        have HBo2 : Hid (Below (wo.heap.size + 1) (wo.alloc (.cells #[.string nm, .bool true, .int .i64 (z : Int), .slice eo m ec] 50)) w2) := (((Below.refl _ _).alloc (by simp) _)).trans (hb2.mono (by simp; try omega))
        clear hb2
        have HBX2 : Hid (w2.heap[wo.heap.size]? = some (.cells #[.string nm, .bool true, .int .i64 (z : Int), .slice eo m ec] 50 (0, 0))) := (HBo2.out.block _ (by omega)).trans HBX.out
        have HBw2 : Hid (Below wo.heap.size wo w2) := ((Below.refl _ _).alloc (Nat.le_refl _) _).trans (HBo2.out.mono (by omega))
        have hs2 : wo.heap.size + 1 ≤ w2.heap.size := by have := HBo2.out.size; simpa using this
        obtain ⟨g2, cap2, w3, hap2, hr2, hb3, hgr2, hg2⟩ := BRw.app (HR.out.below HBw2.out) (by omega) 44 (bs (textL nm.data.toList)) (by rw [Fr.bs_size]; omega)
        have hglt := HR.out.lt
        have HBX3 : Hid (w3.heap[wo.heap.size]? = some (.cells #[.string nm, .bool true, .int .i64 (z : Int), .slice eo m ec] 50 (0, 0))) := (hgr2.block _ (by omega) (fun e => by cases e; omega)).trans HBX2.out
        have HBw3 : Hid (Below w.heap.size w w3) := HBr.out.trans ((HBw2.out.mono hbr).trans hb3)
        have hs3 := hgr2.size
        have hg2' : g2 ≠ wo.heap.size := by rcases hg2 with e | e <;> omega
        have HR3 := Lib.hid hr2
        have hlen2 : (l ++ (bs (textL nm.data.toList)).data.toList).length = l.length + (bs (textL nm.data.toList)).size := by rw [List.length_append]; simp
        have hsz2 : (bs (textL nm.data.toList)).size ≤ 34 := by rw [Fr.bs_size]; exact htl
        have HT2 : Hid ((bs (textL nm.data.toList)).data.toList = textL nm.data.toList) := by show _ = _; unfold bs; simp
        generalize bs (textL nm.data.toList) = t2 at *
        clear hr2 hb3 hgr2 hg2 HBX HBX2
        have d0 := Fr.cell_at (k := 2) HBX3.out
        have d1 := Fr.cell_at (k := 3) HBX3.out
        go_wp2_with (at_builtin; refine wpList_runs rfl (ex_append rfl rfl rfl hap2) ?_)
        refine (HV3.out _ _ (heap_alloc_new _ _)).mono ?_
        rintro e w4 ⟨rfl, hb4⟩
        have HBw4 : Hid (Below w3.heap.size w3 w4) := ((Below.refl _ _).alloc (Nat.le_refl _) _).trans (hb4.mono (by simp))
        clear hb4
        have hs4 := HBw4.out.size
        have HBX4 : Hid (w4.heap[wo.heap.size]? = some (.cells #[.string nm, .bool true, .int .i64 (z : Int), .slice eo m ec] 50 (0, 0))) := (HBw4.out.block _ (by omega)).trans HBX3.out
        have hv30 : (varL 1 ++ varL z ++ varL m).length ≤ 30 := by
          have h1 := Fr.varL_ten 1 (by omega); have h2 := Fr.varL_ten z (by omega); have h3 := Fr.varL_ten m (by omega)
          simp only [List.length_append]; omega
        obtain ⟨g3, cap3, w5, hap3, hr3, hb5, hgr3, hg3⟩ := BRw.app (HR3.out.below HBw4.out) (by omega) 44 (bs (varL 1 ++ varL z ++ varL m)) (by rw [Fr.bs_size, hlen2]; omega)
        have HBX5 : Hid (w5.heap[wo.heap.size]? = some (.cells #[.string nm, .bool true, .int .i64 (z : Int), .slice eo m ec] 50 (0, 0))) := (hgr3.block _ (by omega) (fun e => by cases e; exact hg2' rfl)).trans HBX4.out
        have HBw5 : Hid (Below w.heap.size w w5) := HBw3.out.trans ((HBw4.out.mono (by omega)).trans hb5)
        have HR5 := Lib.hid hr3
        have hsz3 : (bs (varL 1 ++ varL z ++ varL m)).size ≤ 30 := by rw [Fr.bs_size]; exact hv30
        have HT3 : Hid ((bs (varL 1 ++ varL z ++ varL m)).data.toList = varL 1 ++ varL z ++ varL m) := by show _ = _; unfold bs; simp
        generalize bs (varL 1 ++ varL z ++ varL m) = t3 at *
        clear hr3 hb5 hgr3 hg3 HBX3 HBX4 d0 d1
        have d1 := Fr.cell_at (k := 3) HBX5.out
        rw [hlen2] at hap3
        go_wp2_with (at_builtin; refine wpList_runs rfl (ex_append rfl rfl rfl hap3) ?_)
        have hlen3 : ((l ++ t2.data.toList) ++ t3.data.toList).length = l.length + t2.size + t3.size := by rw [List.length_append, hlen2]; simp
        have HL5 : Hid ((l ++ t2.data.toList) ++ t3.data.toList = l ++ (textL nm.data.toList ++ (varL 1 ++ varL z ++ varL m))) := by show _ = _; rw [HT2.out, HT3.out, List.append_assoc]
        generalize (l ++ t2.data.toList) ++ t3.data.toList = l5 at *
        rw [← hlen3]
        have hl5 : l5.length ≤ 14 + 400 * k + 64 := by omega
        clear HT2 HT3 hlen2 hlen3 hap2 hap3 hsz2 hsz3 hs2 hs3 hs4 hg2' HBX5 d1 hglt
        go_loopw [3, 45] (fun bv jv wr => ∃ (j g cap : Nat) (q : List UInt8), j ≤ m ∧ jv = .int .i64 (j : Int) ∧ bv = .slice (some ⟨g, 0, none⟩) q.length cap ∧ q.length ≤ 14 + 400 * k + 64 + 20 * j ∧ Hid (q = l5 ++ (E.take j).flatMap extL) ∧ Hid (BRw w.heap.size wr g cap q) ∧ Hid (Below w.heap.size w wr)) (fun _ jv _ => m - (intOf jv).toNat)
        case atStart => exact ⟨0, g3, cap3, l5, Nat.zero_le _, rfl, rfl, by omega, by show _ = _; simp, HR5, HBw5⟩
        case round =>
          clear HR5 HBw5 HR3 HBw3 HR
          obtain ⟨j, g, cap, q, hj, rfl, rfl, hql, HQ, HR, HBq⟩ := hrel
          have hbq := HBq.out.size
          by_cases hjm : j < m
          · have hjz : (j : Int) < (m : Int) := by omega
            have hjE : j < E.length := by rw [HM.out]; exact hjm
            obtain ⟨be, oe, rfl, y0, y1⟩ := HAe.out _ HBq.out j hjE
            have hx := HEx.out E[j] (List.getElem_mem hjE)
            have HTj := Lib.hid (take_exts E j hjE)
            generalize E[j] = x at *
            clear hjE
            obtain ⟨xs, xc⟩ := x
            dsimp only at y0 y1 hx
            obtain ⟨x1, rfl⟩ : ∃ q : Nat, xs = (q : Int) := ⟨xs.toNat, by omega⟩
            obtain ⟨x2, rfl⟩ : ∃ q : Nat, xc = (q : Int) := ⟨xc.toNat, by omega⟩
            have hw1 : IntKind.u64.wrap (x1 : Int) = (x1 : Int) := by rw [IntKind.wrap_u64]; omega
            have hw2 : IntKind.u64.wrap (x2 : Int) = (x2 : Int) := by rw [IntKind.wrap_u64]; omega
            have HV2 := Lib.hid fun g W hg => var_two x1 x2 (by omega) (by omega) g W hg
            have HXL : Hid (extL ((x1 : Int), (x2 : Int)) = varL x1 ++ varL x2) := rfl
            have hv20 : (varL x1 ++ varL x2).length ≤ 20 := by
              have h1 := Fr.varL_ten x1 (by omega); have h2 := Fr.varL_ten x2 (by omega)
              rw [List.length_append]; omega
            go_wp2_with fail
            refine (HV2.out _ _ (alloc2_new _ _ _)).mono ?_
            rintro e w6 ⟨rfl, hb6⟩
            have HB6 : Hid (Below wr.heap.size wr w6) := ((Below.refl _ _).alloc (Nat.le_refl _) _).trans (((Below.refl _ _).alloc (by simp) _).trans (hb6.mono (by simp; try omega)))
            clear hb6
            obtain ⟨g6, cap6, w7, hap6, hr6, hb7, _, _⟩ := BRw.app (HR.out.below HB6.out) (by have := HB6.out.size; omega) 44 (bs (varL x1 ++ varL x2)) (by rw [Fr.bs_size]; omega)
            have HR7 := Lib.hid hr6
            have HB7 : Hid (Below w.heap.size w w7) := HBq.out.trans ((HB6.out.mono hbq).trans hb7)
            have hlen6 : (q ++ (bs (varL x1 ++ varL x2)).data.toList).length = q.length + (bs (varL x1 ++ varL x2)).size := by rw [List.length_append]; simp
            have hsz6 : (bs (varL x1 ++ varL x2)).size ≤ 20 := by rw [Fr.bs_size]; exact hv20
            have HT6 : Hid ((bs (varL x1 ++ varL x2)).data.toList = varL x1 ++ varL x2) := by show _ = _; unfold bs; simp
            generalize bs (varL x1 ++ varL x2) = t6 at *
            have HL7 : Hid (q ++ t6.data.toList = l5 ++ (E.take (j + 1)).flatMap extL) := by show _ = _; rw [HT6.out, HQ.out, HTj.out, HXL.out, List.append_assoc]
            clear hr6 hb7 HT6 HTj HXL
            go_wp2_with (at_builtin; refine wpList_runs rfl (ex_append rfl rfl rfl hap6) ?_)
            go_roundw
            case rel => exact ⟨j + 1, g6, cap6, q ++ t6.data.toList, by omega, by go_num, by rw [hlen6], by omega, HL7, HR7, HB7⟩
            case measure => simp [intOf]; omega
          · obtain rfl : j = m := by omega
            have hjz : ¬ (j : Int) < (j : Int) := by omega
            have HLF : Hid (q = A0 ++ (L.take (k + 1)).flatMap fileL) := by
              have hE : E.take j = E := List.take_of_length_le (by rw [HM.out]; exact Nat.le_refl _)
              show _ = _
              rw [HQ.out, hE, HL5.out, HL.out, HTk.out, HFq.out]
              simp only [List.append_assoc]
            clear HL5 HTk HFq HQ HEx HAe HL
            go_wp2_with fail
            go_roundw
            case rel => exact ⟨k + 1, g, cap, q, by omega, by go_num, rfl, by omega, HLF, HR, HBq⟩
            case measure => simp [intOf]; omega
    · obtain rfl : k = n := by omega
      have hkz : ¬ (k : Int) < (k : Int) := by omega
      have hcv := HR.out.text
      have HE : Hid (l = dirL L) := by
        show _ = _
        rw [HL.out, HD.out, List.take_of_length_le (by rw [HN.out]; exact Nat.le_refl _)]
      go_wp2_with fail
      go_ret
      exact ⟨by rw [← HE.out]; rfl, HBr.out⟩
end Go.Proofs.Ytfmnbabkdpiboaa
/- What isDirectory, noughts and Pack answer. -/
namespace Go.Proofs.Ytfmnbabkdpiboaa
open Go.RowKit
open Fr (below_drewN varL textL varsL textsL bs fixL crcL)

theorem repeat_noughts (c : Nat) : Lib.repeatL [0] c = List.replicate c 0 := by
  induction c with
  | zero => rfl
  | succ c ih => rw [Lib.repeatL, ih, List.replicate_succ]; rfl
set_option maxRecDepth 100000 in
set_option maxHeartbeats 1000000 in
theorem noughts_any (c : Nat) (w : World) (hc : c ≤ 1000000) : Calls Try.prog 36 #[.int .i64 (c : Int)] w fun e w' => e = .returned (.string (bs (List.replicate c 0))) ∧ Below w.heap.size w w' := by
  have HR := Lib.hid fun W => Try.strings_Repeat ⟨#[0]⟩ c W (by omega) (by show 1 * c ≤ _; omega)
  have HE : Hid ((⟨(Lib.repeatL (⟨#[0]⟩ : ByteArray).data.toList c).toArray⟩ : ByteArray) = bs (List.replicate c 0)) := by
    show _ = _
    rw [← repeat_noughts]; rfl
  rw [HE.out] at HR
  clear HE
  generalize bs (List.replicate c 0) = t at *
  go_enter Try.func36, Try.ntmps36
  go_wp2_with fail
  refine (HR.out _).mono ?_
  rintro e w1 ⟨rfl, hb⟩
  have HB := Lib.hid hb; clear hb
  go_wp2
  go_ret
  exact ⟨rfl, HB.out⟩
set_option maxRecDepth 100000 in
set_option maxHeartbeats 1000000 in
theorem isDir_any (L : List Fl) (v : Value) (w : World) (h : SlF w v L) (hN : Nums64 L) (hn : L.length ≤ 9223372036854775807) : Calls Try.prog 34 #[v] w fun e w' => e = .returned (.bool (rtB L 0 4096)) ∧ Below w.heap.size w w' := by
  have HR := Lib.hid (right_any L v 0 4096 w h hN hn (by unfold I64; omega) (by unfold I64; omega))
  obtain ⟨ao, c, rfl, _⟩ := h.shape
  clear h
  generalize rtB L 0 4096 = r at *
  go_enter Try.func34, Try.ntmps34
  go_wp2_with fail
  refine HR.out.mono ?_
  rintro e w1 ⟨rfl, hb⟩
  have HB := Lib.hid hb; clear hb
  go_wp2
  go_ret
  exact ⟨rfl, HB.out⟩
theorem crc_one (s : ByteArray) (hs : s.size ≤ 1000000) (g : Nat) (w : World) (hg : w.heap[g]? = some (.cells #[.string s] 9 (0, 0))) :
    Calls Try.prog 25 #[.slice (some ⟨g, 0, none⟩) 1 1] w fun e w' => e = .returned (.int .u32 ((crcL s.data.toList : Nat) : Int)) ∧ w = w' := by
  have h := Fr.crc_some [s] g 0 1 w (by unfold maxLen; simp) (fun q hq => by simp at hq; subst hq; unfold maxLen; omega) (fun j hj => by
    obtain rfl : j = 0 := by simp at hj; omega
    rw [Fr.cell_at hg]; rfl)
  refine h.mono fun e w' ⟨he, hb⟩ => ⟨?_, hb⟩
  rw [he]
  simp [Fr.joinB]
/-- What Pack answers. -/
def packV (L : List Fl) : Value := if rtB L 0 4096 = true then (if (packL L).length ≤ 3072 then .tuple #[.string (bs (packed L)), .int .i64 0] else .tuple #[.string ⟨#[]⟩, .int .i64 5]) else .tuple #[.string ⟨#[]⟩, .int .i64 1]
theorem fixL_len (v : Nat) : (fixL v).length = 4 := rfl
set_option maxRecDepth 100000 in
set_option maxHeartbeats 4000000 in
theorem pack_any (L : List Fl) (v : Value) (w : World) (h : SlF w v L) (hN : Nums64 L) (hn : L.length ≤ 9223372036854775807) : Calls Try.prog 18 #[v] w fun e w' => e = .returned (packV L) ∧ Below w.heap.size w w' := by
  have HR := Lib.hid (isDir_any L v w h hN hn)
  have HPV : Hid (packV L = if rtB L 0 4096 = true then (if (packL L).length ≤ 3072 then .tuple #[.string (bs (packed L)), .int .i64 0] else .tuple #[.string ⟨#[]⟩, .int .i64 5]) else .tuple #[.string ⟨#[]⟩, .int .i64 1]) := rfl
  have HRR := Lib.hid (rtB_iff L 0 4096)
  have HSl := Lib.hid h
  obtain ⟨ao, c, rfl, _⟩ := h.shape
  clear h
  generalize packV L = pv at *
  cases hr : rtB L 0 4096
  · rw [hr] at HR
    have HP : Hid (pv = .tuple #[.string ⟨#[]⟩, .int .i64 1]) := by show _ = _; rw [HPV.out, hr]; rfl
    clear HPV HRR hr
    go_enter Try.func18, Try.ntmps18
    go_wp2_with fail
    refine HR.out.mono ?_
    rintro e w1 ⟨rfl, hb⟩
    have HB := Lib.hid hb; clear hb
    go_wp2
    go_ret2
    exact ⟨by rw [HP.out]; rfl, HB.out⟩
  · rw [hr] at HR
    have hright := HRR.out.1 hr
    have htiny := hright.tiny
    have hdl : (dirL L).length ≤ 25614 := by
      have h1 := files_len L htiny
      have h2 := Fr.varL_ten L.length (by have := hright.1; omega)
      have := hright.1
      unfold dirL
      simp only [List.length_append, List.length_cons, List.length_nil]
      omega
    have HW := Lib.hid fun W hW => written_any L (.slice ao L.length c) W (HSl.out.below hW) hright.1 htiny
    have HP1 : Hid ((packL L).length ≤ 3072 → pv = .tuple #[.string (bs (packed L)), .int .i64 0]) := fun h => by rw [HPV.out, hr]; simp [h]
    have HP2 : Hid (¬ (packL L).length ≤ 3072 → pv = .tuple #[.string ⟨#[]⟩, .int .i64 5]) := fun h => by rw [HPV.out, hr]; simp [h]
    clear HPV HRR hr hright htiny
    have HPK : Hid (bs (dirL L) ++ bs (fixL (crcL (dirL L))) = bs (packL L)) := by show _ = _; rw [bs_app]; rfl
    have HPZ : Hid (bs (packL L) ++ bs (List.replicate (3072 - (packL L).length) 0) = bs (packed L)) := by show _ = _; rw [bs_app]; rfl
    have hds : (bs (dirL L)).size ≤ 25614 := by rw [Fr.bs_size]; exact hdl
    have hfs : (bs (fixL (crcL (dirL L)))).size ≤ 4 := by rw [Fr.bs_size]; exact Nat.le_refl _
    have hps : (bs (packL L)).size = (packL L).length := Fr.bs_size _
    have hpk : (packL L).length ≤ 25618 := by
      have : (packL L).length = (dirL L).length + 4 := by unfold packL; rw [List.length_append, fixL_len]
      omega
    have HCr := Lib.hid fun g W hg => crc_one (bs (dirL L)) (by omega) g W hg
    have HFx := Lib.hid fun W => Fr.fixed_any (crcL (dirL L)) W (Fr.crcL_lt _)
    have hdd : (bs (dirL L)).data.toList = dirL L := by unfold bs; simp
    rw [hdd] at HCr
    have HNo := Lib.hid fun W (_ : (packL L).length ≤ 3072) => noughts_any (3072 - (packL L).length) W (by omega)
    obtain ⟨N, hNN⟩ : ∃ N, (packL L).length = N := ⟨_, rfl⟩
    rw [hNN] at HP1 HP2 HPZ HNo hps hpk
    clear hdd hdl
    generalize crcL (dirL L) = cr at *
    generalize bs (dirL L) = d1 at *
    generalize bs (fixL cr) = t1 at *
    have hadd1 := fun (W : World) => run_string_add_sum (P := Try.prog) W d1 t1 (by omega)
    generalize bs (packL L) = p1 at *
    have hz1 : (bs (List.replicate (3072 - N) 0)).size ≤ 3072 := by rw [Fr.bs_size, List.length_replicate]; omega
    generalize bs (List.replicate (3072 - N) 0) = z1 at *
    have hadd2 := fun (W : World) => run_string_add_sum (P := Try.prog) W p1 z1 (by omega)
    have hpk' : d1 ++ t1 = p1 := HPK.out
    rw [hpk'] at hadd1
    clear hNN HPK hpk'
    by_cases h3 : N ≤ 3072
    · have HP := Lib.hid (HP1.out h3)
      have HNo2 := Lib.hid fun W => HNo.out W h3
      have e1 : IntKind.i64.wrap (3072 - (N : Int)) = 3072 - (N : Int) := IntWalk.i64_in _ (by omega)
      have e2 : (3072 : Int) - (N : Int) = ((3072 - N : Nat) : Int) := by omega
      have e3 : ¬ ((3072 : Int) < (N : Int)) := by omega
      clear HP1 HP2 HNo
      go_enter Try.func18, Try.ntmps18
      go_wp2_with fail
      refine HR.out.mono ?_
      rintro e w1 ⟨rfl, hb⟩
      have HB := Lib.hid hb; clear hb
      go_wp2_with fail
      refine (HW.out w1 HB.out).mono ?_
      rintro e w2 ⟨rfl, hb2⟩
      have HB2 : Hid (Below w.heap.size w w2) := HB.out.trans (hb2.mono HB.out.size); clear hb2
      go_wp2_with fail
      refine (HCr.out _ _ (heap_alloc_new _ _)).mono ?_
      rintro e w3 ⟨rfl, rfl⟩
      go_wp2_with fail
      refine (HFx.out _).mono ?_
      rintro e w4 ⟨rfl, hb4⟩
      have HB4 : Hid (Below w.heap.size w w4) := (HB2.out.alloc HB2.out.size _).trans (hb4.mono (by have := HB2.out.size; simp; omega)); clear hb4
      go_wp2_with fail
      refine (HNo2.out _).mono ?_
      rintro e w5 ⟨rfl, hb5⟩
      have HB5 : Hid (Below w.heap.size w w5) := HB4.out.trans (hb5.mono HB4.out.size); clear hb5
      go_wp2
      go_ret2
      exact ⟨by rw [HP.out, ← HPZ.out]; rfl, HB5.out⟩
    · have HP := Lib.hid (HP2.out h3)
      have e3 : (3072 : Int) < (N : Int) := by omega
      clear HP1 HP2 HNo
      go_enter Try.func18, Try.ntmps18
      go_wp2_with fail
      refine HR.out.mono ?_
      rintro e w1 ⟨rfl, hb⟩
      have HB := Lib.hid hb; clear hb
      go_wp2_with fail
      refine (HW.out w1 HB.out).mono ?_
      rintro e w2 ⟨rfl, hb2⟩
      have HB2 : Hid (Below w.heap.size w w2) := HB.out.trans (hb2.mono HB.out.size); clear hb2
      go_wp2_with fail
      refine (HCr.out _ _ (heap_alloc_new _ _)).mono ?_
      rintro e w3 ⟨rfl, rfl⟩
      go_wp2_with fail
      refine (HFx.out _).mono ?_
      rintro e w4 ⟨rfl, hb4⟩
      have HB4 : Hid (Below w.heap.size w w4) := (HB2.out.alloc HB2.out.size _).trans (hb4.mono (by have := HB2.out.size; simp; omega)); clear hb4
      go_wp2
      go_ret2
      exact ⟨by rw [HP.out]; rfl, HB4.out⟩
end Go.Proofs.Ytfmnbabkdpiboaa
